/- The contract of package parse's source: the row of the items up to the end; or the panic. Conditions: the parser's block is its own; at most 16384 tokens. -/
import Derived.Test.YtacgbogedpoojabDoorParItem2
namespace Go.Proofs.YtacgbogedpoojabDoor
namespace Lx
open Go Go.RowKit

def srcLoop (ts : List Tok) (ne : Int) : Nat → Nat → List ItemT → Out (List ItemT)
  | 0, _, _ => .no 2
  | m + 1, k, acc =>
    if k < ts.length then
      if acc.length = 512 then .no 1
      else match itemO ts ne k with
        | .no i => .no i
        | .ok x k1 => match expO ts k1 [46] with
          | .no i => .no i
          | .ok _ k2 => srcLoop ts ne m k2 (acc ++ [x])
    else .ok acc k
def sourceO (ts : List Tok) (ne : Int) (k : Nat) : Out (List ItemT) := srcLoop ts ne (ts.length + 1) k []

theorem infoIt : (Tryd.prog.info? 46).map (fun i => (i.zero, i.size, i.bytes)) = some (some (.agg #[.int .i64 0, .string ⟨#[]⟩, .slice none 0 0, .slice none 0 0, .slice none 0 0, .slice none 0 0, .int .i64 0, .slice none 0 0, .int .i64 0, .int .i64 0, .string ⟨#[]⟩, .int .i64 0, .slice none 0 0, .int .i64 0, .string ⟨#[]⟩, .int .i64 0, .slice none 0 0, .string ⟨#[]⟩, .slice none 0 0, .slice none 0 0]), 20, 336) := by kernel_rfl

/-- The row as the loop holds it. -/
structure SrcI (ne : Int) (O : Out (List ItemT)) (w : World) (b : Nat) (A : Option Addr) (c : Nat) (ts : List Tok) (s : Option Addr) (cap : Nat) (wr : World) (m k : Nat) (acc : List ItemT) (vs : List Value) (g : Nat) : Prop where
  out : srcLoop ts ne m k acc = O
  fuel : ts.length < k + m
  le : k ≤ ts.length
  few : acc.length ≤ 512
  val : (acc = [] ∧ s = none ∧ cap = 0) ∨ s = some ⟨g, 0, none⟩
  own : wr.ownsRow w.heap.size 46 20 (.slice s acc.length cap) acc.length (vs.flatMap cellsL)
  items : Items ItemV w.heap.size wr.heap.size g wr acc vs
  par : Par wr b A c ts k ne
  fr : PFr b w wr
theorem SrcI.held {ne : Int} {O : Out (List ItemT)} {w : World} {b : Nat} {A : Option Addr} {c : Nat} {ts : List Tok} {s : Option Addr} {cap : Nat} {wr : World} {m k : Nat} {acc : List ItemT} {vs : List Value} {g : Nat} (h : SrcI ne O w b A c ts s cap wr m k acc vs g) :
    ArgsV 46 20 ItemV acc (.slice s acc.length cap) w.heap.size wr.heap.size wr := by
  rcases h.val with ⟨rfl, rfl, rfl⟩ | rfl
  · exact .inl ⟨rfl, rfl⟩
  · exact .inr ⟨g, cap, vs, rfl, (h.own.lt g rfl).2, h.own, h.items⟩

theorem SrcI.next {ne : Int} {O : Out (List ItemT)} {w : World} {b : Nat} {A : Option Addr} {c : Nat} {ts : List Tok} {s : Option Addr} {cap : Nat} {wr : World} {m k : Nat} {acc : List ItemT} {vs : List Value} {g : Nat} (h : SrcI ne O w b A c ts s cap wr m k acc vs g) {k0 : Nat} (h0 : Par w b A c ts k0 ne)
    {x2 : ItemT} {v2 : Value} {k1 : Nat} {w4 w6 : World} {o : Obj} {lo4 g2 cap2 : Nat} (hl : acc.length < 512)
    (hf4 : PFr b wr w4) (hp4 : Par w4 b A c ts k1 ne) (hlo : wr.heap.size ≤ lo4) (hv4 : ItemV x2 v2 lo4 w4.heap.size w4)
    (hown : w6.ownsRow w.heap.size 46 20 (.slice (some ⟨g2, 0, none⟩) (acc.length + 1) cap2) (acc.length + 1) (vs.flatMap cellsL ++ cellsL v2)) (hg : (w4.alloc o).grownBy w6 (Value.slice s acc.length cap).ownBlock) (hat : (Value.slice s acc.length cap).ownBlock = some g2 ∨ g2 = (w4.alloc o).heap.size)
    : Par w6 b A c ts k1 ne ∧ PFr b w w6 ∧ (∀ w7 k2 m2, srcLoop ts ne m2 k2 (acc ++ [x2]) = O → ts.length < k2 + m2 → k2 ≤ ts.length → Par w7 b A c ts k2 ne → PFr b w6 w7 → SrcI ne O w b A c ts (some ⟨g2, 0, none⟩) cap2 w7 m2 k2 (acc ++ [x2]) (vs ++ [v2]) g2) := by
  have hbw := h0.lt
  have hgl : ∀ j, (Value.slice s acc.length cap).ownBlock = some j → w.heap.size ≤ j ∧ j < wr.heap.size ∧ (acc ≠ [] → j = g) := fun j hj => by
    have h1 := h.own.lt j hj
    refine ⟨h1.1, h1.2, fun hne => ?_⟩
    rcases h.val with ⟨e, _⟩ | rfl
    · exact absurd e hne
    · exact (Option.some.inj hj).symm
  have hfr : PFr b w w6 := ((h.fr.trans hf4).alloc o).grown hg (fun j hj => (hgl j hj).1)
  have hs6 : w4.heap.size ≤ w6.heap.size := by have := hg.size; simp at this; omega
  have hblk : ∀ j, j < w4.heap.size → some j ≠ (Value.slice s acc.length cap).ownBlock → w6.heap[j]? = w4.heap[j]? := fun j hj hn => (hg.block j (by simp; omega) hn).trans (Below.heap_alloc w4 o j hj)
  have hlen : (acc ++ [x2]).length = acc.length + 1 := by simp
  have hp6 : Par w6 b A c ts k1 ne := h0.move hfr ((hblk b hp4.lt (fun e => by have := (hgl b e.symm).1; omega)).trans hp4.blk) hp4.near hp4.nest0 hp4.nest1
  refine ⟨hp6, hfr, fun w7 k2 m2 hout hfu hk4 hp7 hf7 => ⟨hout, hfu, hk4, by rw [hlen]; omega, .inr rfl, ?_, ?_, hp7, hfr.trans hf7⟩⟩
  · rw [hlen, flat_snoc]
    exact own_fr hown hf7 hbw
  · have i1 := Items.fr ItemV.stable hf4 hbw h.items
    refine Items.fr ItemV.stable hf7 hbw ?_
    rcases h.val with ⟨rfl, rfl, rfl⟩ | rfl
    · match vs, i1 with
      | [], _ =>
        have hg2 : g2 = (w4.alloc o).heap.size := by
          rcases hat with e | e
          · cases e
          · exact e
        refine ⟨⟨lo4, w4.heap.size, by have := h.fr.size; omega, hs6, by rw [hg2]; simp <;> omega, ?_⟩, trivial⟩
        exact ItemV.stable _ _ _ _ _ _ hv4 (fun j _ hj => hblk j hj (fun e => by cases e))
    · have i2 := Items.snoc (x := x2) (v := v2) ⟨lo4, w4.heap.size, by have := h.fr.size; omega, Nat.le_refl _, by have := (hgl g rfl).2.1; omega, hv4⟩ i1
      exact Items.step ItemV.stable (fun j _ j2 j3 => hblk j j2 (fun e => j3 (Option.some.inj e))) hs6 (by rcases hat with e | e; exact .inl (Option.some.inj e).symm; exact .inr (by rw [e]; simp)) i2

set_option maxRecDepth 100000 in
set_option maxHeartbeats 4000000 in
theorem source_any (b : Nat) (A : Option Addr) (c : Nat) (ts : List Tok) (f : Nat → Addr) (ne : Int) (h0 : 0 ≤ ne) (h1 : ne ≤ 50000) (w : World) (k : Nat) (h : Par w b A c ts k ne) (hE : PErrs w b f) (hk : k ≤ ts.length) :
    Calls Tryd.prog 18 #[.pointer (some ⟨b, 0, none⟩)] w fun e w' => EndsV b A c ts ne f (ArgsV 46 20 ItemV) w (sourceO ts ne k) e w' := by
  have HP := Lib.hid h
  have HE := Lib.hid hE
  have hfw := h.few
  obtain ⟨i0, hi, hz0, hz1, hz2⟩ := info_parts infoIt
  have HI0 := Lib.hid hi
  have HI1 := Lib.hid hz0
  have HI2 := Lib.hid hz1
  have HI3 := Lib.hid hz2
  clear hi hz0 hz1 hz2
  have HS : Hid (SrcI ne (sourceO ts ne k) w b A c ts none 0 w (ts.length + 1) k [] [] 0) := Lib.hid ⟨rfl, by omega, hk, by simp, .inl ⟨rfl, rfl, rfl⟩, World.ownsRow_nil _ _ _ _, trivial, h, PFr.refl b w⟩
  clear h hE hk
  generalize sourceO ts ne k = O at *
  go_enter Tryd.func18, Tryd.ntmps18
  go_wp2_with fail
  go_loopw [3] (fun v wr => ∃ s cap m k acc vs g, v = .slice s acc.length cap ∧ Hid (SrcI ne O w b A c ts s cap wr m k acc vs g)) (fun _ wr => ts.length - (intOf ((wr.cell? ⟨b, 1, none⟩).getD undef)).toNat)
  case atStart => exact ⟨none, 0, _, _, [], [], 0, rfl, HS⟩
  case round =>
    obtain ⟨s, cap, m, kr, acc, vs, g, rfl, hI⟩ := hrel
    clear HS
    have HI := hI
    have hI2 := hI.out
    have hle := hI2.le
    have hfewa := hI2.few
    have hout := hI2.out
    have hfu := hI2.fuel
    obtain ⟨m, rfl⟩ : ∃ m', m = m' + 1 := ⟨m - 1, by omega⟩
    rw [srcLoop] at hout
    have hp0 := hI2.par.c1
    have HM := Lib.hid (more_any wr b A c ts kr ne hI2.par)
    clear hI2
    by_cases hlt : kr < ts.length
    · have hd : decide (kr < ts.length) = true := by simpa using hlt
      rw [hd] at HM
      rw [if_pos hlt] at hout
      clear hd
      by_cases hlen : acc.length = 512
      · rw [if_pos hlen] at hout
        subst hout
        have hle2 : ((acc.length : Int) == (512 : Int)) = true := by simp; omega
        clear hlen
        go_wp2_with fail
        go_at_call 21
        refine HM.out.mono ?_
        rintro e w2 ⟨rfl, q, rfl⟩
        have hcl := (HE.out.move (HI.out.fr.drewN q)).large
        have hlw := World.block_lt_of_cell? _ _ hcl
        go_wp2_with fail
        exact ⟨rfl, rfl, ⟨_, _, HI.out.par.drewN q, Int.le_refl _⟩, HI.out.fr.drewN q⟩
      · rw [if_neg hlen] at hout
        have hle2 : ((acc.length : Int) == (512 : Int)) = false := by simp; omega
        have hl5 : acc.length < 512 := by omega
        clear hlen
        have HQ := Lib.hid (fun w h hE => item_any b A c ts f ne h0 h1 w kr h hE hle)
        cases q1 : itemO ts ne kr with
        | no i =>
          rw [q1] at HQ hout
          subst hout
          go_wp2_with fail
          go_at_call 21
          refine HM.out.mono ?_
          rintro e w2 ⟨rfl, q, rfl⟩
          go_wp2_with fail
          go_at_call 33
          refine (HQ.out _ (HI.out.par.drewN q) (HE.out.move (HI.out.fr.drewN q))).mono ?_
          rintro e w4 ⟨rfl, h2, h3⟩
          go_wp2_with fail
          exact ⟨rfl, rfl, h2, (HI.out.fr.drewN q).trans h3⟩
        | ok x2 k1 =>
          rw [q1] at HQ
          rw [q1] at hout
          have hk1 := itemO_fwd ts ne _ _ _ q1
          clear q1
          have HX := Lib.hid (fun w h hE => expect_any w b A c ts k1 ne f ⟨#[46]⟩ h (by omega) hE)
          rw [expO_eq, show (ByteArray.mk #[46]).data.toList = [46] from rfl] at HX
          have hout : (match expO ts k1 [46] with | .no i => Out.no i | .ok _ k2 => srcLoop ts ne m k2 (acc ++ [x2])) = O := hout
          cases q2 : expO ts k1 [46] with
          | no i =>
            rw [q2] at HX hout
            subst hout
            go_wp2_with fail
            go_at_call 21
            refine HM.out.mono ?_
            rintro e w2 ⟨rfl, q, rfl⟩
            go_wp2_with fail
            go_at_call 33
            refine (HQ.out _ (HI.out.par.drewN q) (HE.out.move (HI.out.fr.drewN q))).mono ?_
            rintro e w4 ⟨v4, rfl, hv4, hp4, hf4⟩
            obtain ⟨i1, i2, i3, i4, i5, i6, i7, i8, i9, ia, ib, ic, id, ie, ig, ih, ii, ij, z1, z2, z3, z4, z5, z6, z7, z8, z9, za, zb, zc, zd, ze, zf, zg, zh, zi, zj, zk, rfl⟩ := ItemV.this hv4
            have HP4 := Lib.hid hp4
            have HF4 := Lib.hid (((PFr.refl b wr).drewN q).trans hf4)
            have HV4 := Lib.hid hv4
            have HO4 := Lib.hid (own_fr HI.out.own HF4.out HP.out.lt)
            have hW4 : w.heap.size ≤ w4.heap.size := Nat.le_trans HI.out.fr.size HF4.out.size
            have HLO : wr.heap.size ≤ (wr.drewN q).heap.size := Nat.le_refl _
            clear hv4 hp4 hf4
            go_wp2_with (at_builtin; refine wpList_append_lies _ rfl _ _ 38 rfl w.heap.size 46 i0 (.agg #[.int .i64 0, .string ⟨#[]⟩, .slice none 0 0, .slice none 0 0, .slice none 0 0, .slice none 0 0, .int .i64 0, .slice none 0 0, .int .i64 0, .int .i64 0, .string ⟨#[]⟩, .int .i64 0, .slice none 0 0, .int .i64 0, .string ⟨#[]⟩, .int .i64 0, .slice none 0 0, .string ⟨#[]⟩, .slice none 0 0, .slice none 0 0]) 20 336 Tryd.underlying38 HI0.out HI1.out HI2.out HI3.out rfl (by decide) _ _ _ rfl (HO4.out.alloc _) ⟨w4.heap.size, 0, none⟩ 1 1 [.int .i64 i1, .string i2, .slice i3 i4 i5, .slice i6 i7 i8, .slice i9 ia ib, .slice ic id ie, .int .i64 ig, .slice ih ii ij, .int .i64 z1, .int .i64 z2, .string z3, .int .i64 z4, .slice z5 z6 z7, .int .i64 z8, .string z9, .int .i64 za, .slice zb zc zd, .string ze, .slice zf zg zh, .slice zi zj zk] rfl rfl (cells_new _ #[.int .i64 i1, .string i2, .slice i3 i4 i5, .slice i6 i7 i8, .slice i9 ia ib, .slice ic id ie, .int .i64 ig, .slice ih ii ij, .int .i64 z1, .int .i64 z2, .string z3, .int .i64 z4, .slice z5 z6 z7, .int .i64 z8, .string z9, .int .i64 za, .slice zb zc zd, .string ze, .slice zf zg zh, .slice zi zj zk] _ _ rfl) (by simp [Value.oneCell']) (by decide) (by unfold maxLen; omega) (by omega) (by simp; omega) _ rfl ?_; intro g2 cap2 w6 hown6 hg6 hat6 _; have HNX := Lib.hid (SrcI.next HI.out HP.out hl5  HF4.out HP4.out HLO HV4.out hown6 hg6 hat6); clear hown6 hg6 hat6)
            go_wp2_with fail
            go_at_call 34
            refine (HX.out _ HNX.out.1 (HE.out.move HNX.out.2.1)).mono ?_
            rintro e w7 ⟨rfl, h2, h3⟩
            go_wp2_with fail
            exact ⟨rfl, rfl, h2, HNX.out.2.1.trans h3⟩
          | ok u k2 =>
            rw [q2] at HX hout
            have hk2 := expO_fwd (ts := ts) (s := [46]) (by decide) _ _ _ q2
            have HO := Lib.hid hout
            clear hout
            go_wp2_with fail
            go_at_call 21
            refine HM.out.mono ?_
            rintro e w2 ⟨rfl, q, rfl⟩
            go_wp2_with fail
            go_at_call 33
            refine (HQ.out _ (HI.out.par.drewN q) (HE.out.move (HI.out.fr.drewN q))).mono ?_
            rintro e w4 ⟨v4, rfl, hv4, hp4, hf4⟩
            obtain ⟨i1, i2, i3, i4, i5, i6, i7, i8, i9, ia, ib, ic, id, ie, ig, ih, ii, ij, z1, z2, z3, z4, z5, z6, z7, z8, z9, za, zb, zc, zd, ze, zf, zg, zh, zi, zj, zk, rfl⟩ := ItemV.this hv4
            have HP4 := Lib.hid hp4
            have HF4 := Lib.hid (((PFr.refl b wr).drewN q).trans hf4)
            have HV4 := Lib.hid hv4
            have HO4 := Lib.hid (own_fr HI.out.own HF4.out HP.out.lt)
            have hW4 : w.heap.size ≤ w4.heap.size := Nat.le_trans HI.out.fr.size HF4.out.size
            have HLO : wr.heap.size ≤ (wr.drewN q).heap.size := Nat.le_refl _
            clear hv4 hp4 hf4
            go_wp2_with (at_builtin; refine wpList_append_lies _ rfl _ _ 38 rfl w.heap.size 46 i0 (.agg #[.int .i64 0, .string ⟨#[]⟩, .slice none 0 0, .slice none 0 0, .slice none 0 0, .slice none 0 0, .int .i64 0, .slice none 0 0, .int .i64 0, .int .i64 0, .string ⟨#[]⟩, .int .i64 0, .slice none 0 0, .int .i64 0, .string ⟨#[]⟩, .int .i64 0, .slice none 0 0, .string ⟨#[]⟩, .slice none 0 0, .slice none 0 0]) 20 336 Tryd.underlying38 HI0.out HI1.out HI2.out HI3.out rfl (by decide) _ _ _ rfl (HO4.out.alloc _) ⟨w4.heap.size, 0, none⟩ 1 1 [.int .i64 i1, .string i2, .slice i3 i4 i5, .slice i6 i7 i8, .slice i9 ia ib, .slice ic id ie, .int .i64 ig, .slice ih ii ij, .int .i64 z1, .int .i64 z2, .string z3, .int .i64 z4, .slice z5 z6 z7, .int .i64 z8, .string z9, .int .i64 za, .slice zb zc zd, .string ze, .slice zf zg zh, .slice zi zj zk] rfl rfl (cells_new _ #[.int .i64 i1, .string i2, .slice i3 i4 i5, .slice i6 i7 i8, .slice i9 ia ib, .slice ic id ie, .int .i64 ig, .slice ih ii ij, .int .i64 z1, .int .i64 z2, .string z3, .int .i64 z4, .slice z5 z6 z7, .int .i64 z8, .string z9, .int .i64 za, .slice zb zc zd, .string ze, .slice zf zg zh, .slice zi zj zk] _ _ rfl) (by simp [Value.oneCell']) (by decide) (by unfold maxLen; omega) (by omega) (by simp; omega) _ rfl ?_; intro g2 cap2 w6 hown6 hg6 hat6 _; have HNX := Lib.hid (SrcI.next HI.out HP.out hl5  HF4.out HP4.out HLO HV4.out hown6 hg6 hat6); clear hown6 hg6 hat6)
            go_wp2_with fail
            go_at_call 34
            refine (HX.out _ HNX.out.1 (HE.out.move HNX.out.2.1)).mono ?_
            rintro e w7 ⟨v7, rfl, rfl, hp7, hf7⟩
            have HN7 := Lib.hid (HNX.out.2.2 w7 k2 m HO.out (by omega) hk2.2 hp7 hf7)
            have hm7 := hp7.c1
            clear hp7 hf7
            go_wp2_with fail
            have hl2 : (acc ++ [x2]).length = acc.length + 1 := by simp
            go_roundw
            case rel => exact ⟨_, _, _, _, acc ++ [x2], _, _, by rw [hl2], HN7⟩
            case measure => simp [hm7, hp0, intOf]; omega
    · have hd : decide (kr < ts.length) = false := by simpa using hlt
      rw [hd] at HM
      rw [if_neg hlt] at hout
      subst hout
      clear hd
      go_wp2_with fail
      go_at_call 21
      refine HM.out.mono ?_
      rintro e w2 ⟨rfl, q, rfl⟩
      go_wp2_with fail
      go_ret
      exact ⟨_, rfl, ArgsV.stable _ _ ItemV.stable _ _ _ _ _ _ HI.out.held (fun _ _ _ => rfl), HI.out.par.drewN q, HI.out.fr.drewN q⟩

end Lx
end Go.Proofs.YtacgbogedpoojabDoor
