import Derived.Test.YtmihlihlpdkdcaaGreatK15
import Derived.Deep.Cut
import Derived.Laws.Cover3
import Derived.Test.YtmihlihlpdkdcaaGreatQ09
import Derived.RangeFuncNested
import Derived.RangeFuncBound
import Derived.RangeFuncCalls
import Derived.RangeFuncLeaves
import Derived.RangeFuncFrom
import Derived.RangeFuncWrites
import Derived.Shelf.Abstract
import Derived.Shelf.RegionOpen
import Derived.OwnWalkIn
import Derived.TacticsInMore
import Derived.LoopNIn
import Derived.LoopIn
import Derived.Test.YtmihlihlpdkdcaaGreatQ08
import Derived.Maps.OwnIn
import Derived.Test.YtmihlihlpdkdcaaGreatK12
import Derived.Test.YtmihlihlpdkdcaaGreatK11
import Derived.RangeFuncBox
import Derived.Test.YtmihlihlpdkdcaaGreatQ06
import Derived.Maps.OwnOps
namespace Go.Proofs.YtmihlihlpdkdcaaGreat
open Go.RowKit
set_option maxRecDepth 200000
set_option maxHeartbeats 64000000
def zqr (l : List Aa) (now j : Nat) : List Aa := dueL (l.take j) now
def zi9 (l : List Aa) (now j : Nat) : List Aa := zg7 (l.take j) now
theorem z7n {l : List Aa} {j : Nat} (h : j < l.length) : l.take (j + 1) = l.take j ++ [att l j] := by rw [List.take_succ_eq_append_getElem h, znt h]
theorem yul {l : List Aa} {now j : Nat} (h : j < l.length) (hd : slA l j < now) : zqr l now (j + 1) = zqr l now j ++ [att l j] ∧ zi9 l now (j + 1) = zi9 l now j := by
 unfold zqr zi9
 rw [z7n h]
 refine ⟨ymt hd, ?_⟩
 rw [z5y]
 unfold slA at hd
 simp [zg7, zqe, hd]
theorem yyg {l : List Aa} {now j : Nat} (h : j < l.length) (hd : ¬ slA l j < now) : zqr l now (j + 1) = zqr l now j ∧ zi9 l now (j + 1) = zi9 l now j ++ [att l j] := by
 unfold zqr zi9
 rw [z7n h]
 refine ⟨?_, ydj hd⟩
 rw [yc5]
 unfold slA at hd
 simp [dueL, zqe, hd]
theorem yu5 {l : List Aa} {now j : Nat} : (zqr l now j).length ≤ j ∧ (zi9 l now j).length ≤ j := by
 have h1 := z65 (l := l.take j) (now := now)
 have h2 := ygx (l := l.take j) (now := now)
 have h3 : (l.take j).length ≤ j := by rw [List.length_take]; omega
 exact ⟨Nat.le_trans h1 h3, Nat.le_trans h2 h3⟩
theorem yto {l : List Aa} {now j : Nat} (h : l.length = j) : zqr l now j = dueL l now ∧ zi9 l now j = zg7 l now := by
 subst h
 unfold zqr zi9
 rw [List.take_length]
 exact ⟨rfl, rfl⟩
theorem yq4 (p q : Nat) : SepE (.slice none 0 p) (.slice none 0 q) := fun b hb => by cases hb
theorem ya4 (g : Nat) (lb : Array Value) (eg : ∀ args w, (callFunc g args).run Tryz.prog w = .ok (.enter g args) w) (now : Nat) (p : Option Addr) (n cp : Nat) (l : List Aa) (w : World) (h : SlE Eaa w (.slice p n cp) l) (hl : l.length = n) (hn : n ≤ 1000)
  (hp : ∀ (k : Nat) (W : World), k < n → Below w.heap.size w W → Calls Tryz.prog g (#[.agg (aa (att l k))] ++ lb) W fun e W' => e = .returned (.bool (decide (slA l k < now))) ∧ Below W.heap.size W W') :
  Calls Tryz.prog 101 #[.slice p n cp, .func (.func g) #[] lb] w (zys (dueL l now) (zg7 l now) w) := by
 have HS := Lib.hid h
 have HL := Lib.hid hl
 have HN := Lib.hid hn
 have HP := Lib.hid hp
 clear h hl hn hp
 go_enter Tryz.func101, Tryz.ntmps101
 go_wp2_with fail
 go_loopw [6, 7, 12] (fun u v i wr => ∃ j : Nat, j ≤ n ∧ i = .int .i64 (j : Int) ∧ OwnE Eaa wr w.heap.size u (zqr l now j) ∧ OwnE Eaa wr w.heap.size v (zi9 l now j) ∧ SepE u v ∧ Below w.heap.size w wr) (fun _ _ i _ => n - (intOf i).toNat)
 case atStart => exact ⟨0, Nat.zero_le _, rfl, by rw [show zqr l now 0 = [] from rfl]; exact zbv _ _ _, by rw [show zi9 l now 0 = [] from rfl]; exact zbv _ _ _, yq4 _ _, Below.refl _ _⟩
 case round =>
  obtain ⟨j, hj, rfl, ho1, ho2, hs, hb⟩ := hrel
  have HO1 := Lib.hid ho1
  have HO2 := Lib.hid ho2
  have HSp := Lib.hid hs
  have HB := Lib.hid hb
  have HLe := Lib.hid (yu5 (l := l) (now := now) (j := j))
  obtain ⟨pu, cu, rfl⟩ := zfa ho1
  obtain ⟨pv, cv, rfl⟩ := zfa ho2
  obtain ⟨m1, hm1⟩ : ∃ m1, m1 = (zqr l now j).length := ⟨_, rfl⟩
  obtain ⟨m2, hm2⟩ : ∃ m2, m2 = (zi9 l now j).length := ⟨_, rfl⟩
  rw [← hm1] at HO1 HSp HLe
  rw [← hm2] at HO2 HSp HLe
  rw [← hm1, ← hm2]
  have HM1 := Lib.hid hm1
  have HM2 := Lib.hid hm2
  clear ho1 ho2 hs hb hm1 hm2
  by_cases hlt : j < n
  ·
   have i0 : (0 : Int) ≤ (j : Int) := by omega
   have i1 : (j : Int) < (n : Int) := by omega
   have u1 : (j : Int) + 1 < 10000 := by have := HN.out; omega
   obtain ⟨b1, o1, rfl, q1, x1⟩ := zyw (zac HB.out HS.out) (by have := HL.out; omega)
   have y2 := zs4 x1 (i := j) (by have := HL.out; omega)
   have HLT := Lib.hid hlt
   have HU1 := Lib.hid (fun h => yul (l := l) (now := now) (j := j) (by have := HL.out; omega) h)
   have HU2 := Lib.hid (fun h => yyg (l := l) (now := now) (j := j) (by have := HL.out; omega) h)
   obtain ⟨x, hx⟩ : ∃ x, x = att l j := ⟨_, rfl⟩
   rw [← hx] at y2 HU1 HU2
   obtain ⟨W1, hW1⟩ : ∃ W1, W1 = wr.alloc (.cells (aa x) 62) := ⟨_, rfl⟩
   have hx1 : W1.heap[wr.heap.size]? = some (.cells (aa x) 62 (0, 0)) := by rw [hW1]; exact heap_alloc_last wr _
   have B1 : Hid (Below w.heap.size w W1) := by rw [hW1]; exact zad HB.out below1
   have O1 := Lib.hid (za6 HO1.out (.cells (aa x) 62))
   have O2 := Lib.hid (za6 HO2.out (.cells (aa x) 62))
   rw [← hW1] at O1 O2
   have HX1 := Lib.hid hx1
   have z1 := zaf hx1 (zfg x)
   have HQ := Lib.hid (HP.out j W1 hlt B1.out)
   rw [← hx] at HQ
   have HW := Lib.hid hW1
   clear x1 hlt hx q1 hW1 hx1
   go_upto_region 5 with fail
   rw [← HW.out]
   go_wp2_with fail
   refine HQ.out.mono ?_
   rintro e w2 ⟨rfl, g2⟩
   have G2 := Lib.hid (zad B1.out g2)
   have P1 := Lib.hid (zah g2 O1.out)
   have P2 := Lib.hid (zah g2 O2.out)
   have z2 := zaf (zab g2 HX1.out) (zfg x)
   have Z : Hid (w.heap.size ≤ w2.heap.size) := G2.out.size
   clear g2 y2 z1
   by_cases hd : slA l j < now
   ·
    rw [decide_eq_true hd]
    obtain ⟨e1, e2⟩ := HU1.out hd
    have E1 := Lib.hid e1
    have E2 := Lib.hid e2
    clear hd e1 e2
    go_wp2_with (at_builtin; go_loud (refine zbs Kaa _ rfl (.tmp 19) (.tmp 21) rfl w.heap.size _ _ rfl (za6 P1.out _) _ [x] rfl (z3i _ x _ (by simp)) (by rw [← HM1.out]; have := HLe.out.1; have := HLT.out; have := HN.out; simp; omega) (by have := Z.out; simp; omega) ?_; intro v4 w4 ho4 hg4; have O4 := Lib.hid ho4; have G4 := Lib.hid (Gr.alloc hg4); clear ho4 hg4))
    go_roundw
    case rel => exact ⟨j + 1, HLT.out, by go_num, by rw [E1.out]; exact O4.out, by rw [E2.out]; exact ydo HSp.out P2.out G4.out, ygd HSp.out P2.out G4.out, G2.out.trans (G4.out.own P1.out Z.out)⟩
    case measure => simp [intOf]; have := HLT.out; omega
   ·
    rw [decide_eq_false hd]
    obtain ⟨e1, e2⟩ := HU2.out hd
    have E1 := Lib.hid e1
    have E2 := Lib.hid e2
    clear hd e1 e2
    go_wp2_with (at_builtin; go_loud (refine zbs Kaa _ rfl (.tmp 23) (.tmp 25) rfl w.heap.size _ _ rfl (za6 P2.out _) _ [x] rfl (z3i _ x _ (by simp)) (by rw [← HM2.out]; have := HLe.out.2; have := HLT.out; have := HN.out; simp; omega) (by have := Z.out; simp; omega) ?_; intro v4 w4 ho4 hg4; have O4 := Lib.hid ho4; have G4 := Lib.hid (Gr.alloc hg4); clear ho4 hg4))
    go_roundw
    case rel => exact ⟨j + 1, HLT.out, by go_num, by rw [E1.out]; exact ybk HSp.out P1.out G4.out, by rw [E2.out]; exact O4.out, yac HSp.out P1.out G4.out, G2.out.trans (G4.out.own P2.out Z.out)⟩
    case measure => simp [intOf]; have := HLT.out; omega
  ·
   obtain rfl : j = n := by omega
   obtain ⟨e1, e2⟩ := yto (now := now) HL.out
   rw [e1] at HO1
   rw [e2] at HO2
   clear hlt e1 e2
   go_wp2_with fail
   go_ret2
   exact ⟨_, _, rfl, zak HO1.out, zak HO2.out, HB.out⟩
theorem ydf (x : Aa) (now a : Nat) (w : World) (hz : w.cell? ⟨a, 0, none⟩ = some (.int .u64 (now : Int))) (ha : a < w.heap.size) : Calls Tryz.prog 102 #[.agg (aa x), .pointer (some ⟨a, 0, none⟩)] w fun e w' => e = .returned (.bool (decide (x.slot.toNat < now))) ∧ Below w.heap.size w w' := by
 obtain ⟨W, hW⟩ : ∃ W, W = w.alloc (.cells (aa x) 62) := ⟨_, rfl⟩
 have hx : W.heap[w.heap.size]? = some (.cells (aa x) 62 (0, 0)) := by rw [hW]; exact heap_alloc_last w _
 have HB : Hid (Below w.heap.size w W) := by rw [hW]; exact below1
 have z := zih hx
 unfold num at z
 have z2 : W.cell? ⟨a, 0, none⟩ = some (.int .u64 (now : Int)) := by rw [HB.out.cell ha]; exact hz
 obtain ⟨y, hy⟩ : ∃ y, y = x.slot.toNat := ⟨_, rfl⟩
 rw [← hy] at z
 rw [← hy]
 obtain ⟨b, hb⟩ : ∃ b, b = decide (y < now) := ⟨_, rfl⟩
 rw [← hb]
 have t0 : decide ((y : Int) < (now : Int)) = b := by rw [hb]; exact decide_eq_decide.2 (by omega)
 have t1 : decide (y < now) = b := hb.symm
 have HW := Lib.hid hW
 clear hx hW hb hy hz ha
 go_enter Tryz.func102, Tryz.ntmps102
 go_upto_region 1 with fail
 rw [← HW.out]
 go_wp2_with fail
 go_ret
 exact ⟨by first | rfl | simp [t1], HB.out⟩
theorem zql : ∀ args w, (callFunc 102 args).run Tryz.prog w = .ok (.enter 102 args) w := zbb Tryz.func102 (by kernel_rfl) (by kernel_rfl)
theorem yfh (p : Option Addr) (n cp : Nat) (l : List Aa) (now : Nat) (w : World) (h : SlE Eaa w (.slice p n cp) l) (hl : l.length = n) (hn : n ≤ 1000) :
  Calls Tryz.prog 74 #[.slice p n cp, .int .u64 (now : Int)] w (zys (dueL l now) (zg7 l now) w) := by
 obtain ⟨W, hW⟩ : ∃ W, W = w.alloc (.cells #[.int .u64 (now : Int)] 30) := ⟨_, rfl⟩
 have HB : Hid (Below w.heap.size w W) := by rw [hW]; exact below1
 have hz : W.cell? ⟨w.heap.size, 0, none⟩ = some (.int .u64 (now : Int)) := by rw [hW]; exact cell_of_row _ _ _ _ _ _ (heap_alloc_last w _)
 have hsz : w.heap.size < W.heap.size := by rw [hW]; simp
 have HP := Lib.hid (ya4 102 #[.pointer (some ⟨w.heap.size, 0, none⟩)] zql now p n cp l W (zac HB.out h) hl hn
  (fun k W' _ g => ydf _ now _ W' (by rw [g.cell hsz]; exact hz) (Nat.lt_of_lt_of_le hsz g.size)))
 have HW := Lib.hid hW
 clear h hl hn hW hz hsz
 go_enter Tryz.func74, Tryz.ntmps74
 go_upto_region 1 with fail
 rw [← HW.out]
 go_wp2_with fail
 refine HP.out.mono ?_
 rintro e w1 ⟨v1, v2, rfl, h1, h2, g⟩
 have H1 := Lib.hid h1
 have H2 := Lib.hid h2
 have HG := Lib.hid (zad HB.out g)
 clear h1 h2 g
 go_wp2_with fail
 go_ret2
 exact ⟨_, _, rfl, H1.out, H2.out, HG.out⟩
theorem yid (v : Value) (l : List Aa) (now : Nat) (w : World) (h : SlE Eaa w v l) (hn : l.length ≤ 1000) :
  Calls Tryz.prog 74 #[v, .int .u64 (now : Int)] w (zys (dueL l now) (zg7 l now) w) := by
 have k := h
 obtain ⟨p, cp, rfl, _⟩ := zaj h
 exact yfh p _ cp l now w k rfl hn
section
open Go.Shelf
theorem zao {W : World} {B : Nat} {v : Value} {t : TypeId} (h : W.heap[B]? = some (.cells #[v] t (0, 0))) : W.cell? ⟨B, 0, none⟩ = some v ∧ W.frozen? ⟨B, 0, none⟩ = false := by
 constructor <;> simp [World.cell?, World.frozen?, h]
theorem zkc {F : Fence} {n : Nat} {P : Program} {fn : Func} {tmps : Array Value} {R : Ending → World → Prop} {W : World} {D : Nat} {v : Value} (hK : W.heap[D]? = some (.deferred (some [])))
  (h : (results fn tmps).run P (W.putObj D (.deferred none)) = .ok v (W.putObj D (.deferred none)) ∧ R (.returned v) (W.putObj D (.deferred none))) : LeavesInM F n P fn tmps R [{ target := .collected D, args := #[] }] .returning W :=
 ⟨by simp, .inl ⟨D, _, rfl, run_takeDeferred hK, ⟨v, h.1, h.2⟩⟩⟩
theorem zmm {W : World} {D : Nat} {a : Addr} {v : Value} (hK : W.heap[D]? = some (.deferred (some []))) (hc : W.cell? a = some v) : (W.putObj D (.deferred none)).cell? a = some v :=
 cell_kept hc (grownBy_putObj' W D (.deferred none)) (fun r e => by cases e; exact ⟨_, hK, rfl⟩)
theorem zeh {B D : Nat} {w W : World} (hK : W.heap[D]? = some (.deferred (some []))) (h : Below B w W) (hB : B ≤ D) : Below B w (W.putObj D (.deferred none)) :=
 h.grown (grownBy_putObj' W D (.deferred none)) (by have := (Array.getElem?_eq_some_iff.1 hK).1; omega) (fun k e => by cases e; exact hB)
theorem z73 {α : Type} {B : Nat} {W0 : World} (p : List α → Prop) (hB : W0.heap.size ≤ B) : OwnFrom B (fun pre W => p pre ∧ Below W0.heap.size W0 W) :=
 OwnFrom.and (fun _ _ _ _ h _ _ => h) (ownFrom_below (Nat.le_refl _) hB)
theorem z7u {α : Type} {B : Nat} {w : World} (p : List α → Prop) (a : Addr) (v : List α → Value) (hB : w.heap.size ≤ B) : OwnFrom B (fun pre W => (p pre ∧ W.cell? a = some (v pre)) ∧ Below w.heap.size w W) :=
 OwnFrom.and (Own.from (fun _ _ _ _ hs hg hr => ⟨hs.1, cell_kept hs.2 hg hr⟩) _) (ownFrom_below (Nat.le_refl _) hB)
end
section
open Go.Shelf
open Go.RowKit Go.Shelf
structure But (s0 n₀ D : Nat) (W W' : World) : Prop where
 below : Below s0 W W'
 block : ∀ k, k < n₀ → k ≠ D → W'.heap[k]? = W.heap[k]?
section
variable {s0 n₀ D : Nat} {A W W' : World}
theorem But.refl (s0 n₀ D : Nat) (W : World) : But s0 n₀ D W W := ⟨Below.refl _ _, fun _ _ _ => rfl⟩
theorem But.trans (h : But s0 n₀ D A W) (k : But s0 n₀ D W W') : But s0 n₀ D A W' := ⟨h.below.trans k.below, fun j hj hn => (k.block j hj hn).trans (h.block j hj hn)⟩
theorem But.of_below (h : Below n₀ W W') (hs : s0 ≤ n₀) : But s0 n₀ D W W' := ⟨h.mono hs, fun k hk _ => h.block k hk⟩
theorem But.then (h : But s0 n₀ D A W) (g : Below W.heap.size W W') (hs : s0 ≤ n₀) (hn : n₀ ≤ W.heap.size) : But s0 n₀ D A W' := h.trans (But.of_below (g.mono hn) hs)
theorem But.setCell (h : But s0 n₀ D A W) (hD : s0 ≤ D) (v : Value) : But s0 n₀ D A (W.setCell ⟨D, 0, none⟩ v) :=
 h.trans ⟨(Below.refl _ _).setCell (p := ⟨D, 0, none⟩) hD v, fun _ _ hn => Below.heap_setCell _ _ _ _ hn⟩
theorem But.blk {k : Nat} {o : Obj} (h : But s0 n₀ D W W') (hk : k < n₀) (hn : k ≠ D) (e : W.heap[k]? = some o) : W'.heap[k]? = some o := (h.block k hk hn).trans e
theorem yfg {A B C : World} (h : But s0 n₀ D A B) (k : But s0 n₀ D B C) : But s0 n₀ D A C := h.trans k
theorem yeb {w : World} (hs : s0 ≤ n₀) (hn : n₀ ≤ w.heap.size) (W : World) (l : Nat) (o o' : Obj) (hl : w.heap.size ≤ l) (h : W.heap[l]? = some o) (h1 : o.isCells = false) (h2 : o.isWalk = false) : But s0 n₀ D W (W.putObj l o') :=
 But.of_below (belowK_b hn W l o o' hl h h1 h2) hs
theorem But.own {α : Type} {B : Nat} {W0 : World} (hn : n₀ ≤ B) (h0 : n₀ ≤ W0.heap.size) (hs : s0 ≤ n₀) : OwnFrom B (fun (_ : List α) W => But s0 n₀ D W0 W) := fun _ W W' row h hg hr =>
 h.trans ⟨⟨hg.os, hg.tape, hg.output, hg.size, fun k hk => hg.block k (Nat.lt_of_lt_of_le (Nat.lt_of_lt_of_le (Nat.lt_of_lt_of_le hk hs) h0) h.below.size) (fun e => by have := (hr k e.symm).1; omega)⟩, fun k hk _ => hg.block k (Nat.lt_of_lt_of_le (Nat.lt_of_lt_of_le hk h0) h.below.size) (fun e => by have := (hr k e.symm).1; omega)⟩
theorem zbw (h : Below W.heap.size W W') : W.grownBy W' none := ⟨h.os, h.tape, h.output, h.size, fun k hk _ => h.block k hk⟩
theorem ygv {α : Type} {B : Nat} (f : List α → Obj) (hD : D < B) : OwnFrom B (fun s W => W.heap[D]? = some (f s)) := fun _ W W' row h hg hr =>
 (hg.block D (Array.getElem?_eq_some_iff.1 h).1 (fun e => by have := (hr D e.symm).1; omega)).trans h
theorem yg4 {v : Value} {t : TypeId} (h : W.heap[D]? = some (.cells #[v] t (0, 0))) (v' : Value) : (W.setCell ⟨D, 0, none⟩ v').heap[D]? = some (.cells #[v'] t (0, 0)) := by
 obtain ⟨hlt, hk⟩ := Array.getElem?_eq_some_iff.1 h
 show (W.heap.modify D _)[D]? = _
 rw [Array.getElem?_eq_getElem (by rw [Array.size_modify]; exact hlt), Array.getElem_modify_self, hk]
 rfl
theorem zwe {α : Type} {E : Lie α} {base : Nat} {v : Value} {l : List α} (ho : OwnE E W base v l) {k : Nat} {o : Obj} (hk : v.ownBlock = some k) (hb : W.heap[k]? = some o) : o.isCells = true := by
 rcases ho.2 with ⟨rfl, _⟩ | ⟨g, cap, cur, rfl, _, hg, _⟩
 ·
  cases hk
 ·
  have e : g = k := by injection hk
  subst e
  rw [hg] at hb
  cases hb
  rfl
theorem z3n {α β : Type} {E : Lie β} {B base : Nat} (v : List α → Value) (f : List α → List β) : OwnFrom B (fun s W => OwnE E W base (v s) (f s)) := fun _ W W' row h hg hr =>
 zdi h fun b hb hk => hg.block b hb (fun e => by
  obtain ⟨_, o, ho, hc⟩ := hr b e.symm
  have := zwe h hk ho
  rw [this] at hc; cases hc)
end
section
variable {P : Program} {ops : Array Oper} {rest : List Oper} {o : Oper} {a : Act} {Q : Exit → Act → World → Prop}
theorem zpk {F : Fence} {nF : Nat} {α : Type} {E : Lie α} {T : TypeId} (K : Known P E T) (w : World) (hgd : o.guard = none) (s x : Operand)
  (ho : o.op = .call { callee := .builtin .append, args := #[s, x], argTypes := #[T, T] })
  (base : Nat) (v : Value) (k : List α) (hs : a.eval s = v) (hown : OwnE E w base v k) (vx : Value) (l : List α) (hx : a.eval x = vx) (hsl : SlE E w vx l)
  (hlen : k.length + l.length ≤ 1000000) (hbase : base ≤ w.heap.size)
  (h : ∀ v' w', OwnE E w' base v' (k ++ l) → Gr w v w' v' → wpListIn F nF P ops Q rest (a.put o.dst v') w') : wpListIn F nF P ops Q (o :: rest) a w := by
 refine wpListIn_plain hgd fun K' hK' => ?_
 obtain ⟨v', w', hr, h2, h3⟩ := zp1 K w o.type base v k hown vx l hsl hlen hbase
 unfold Oper.wpIn
 refine ⟨?_, ?_⟩
 ·
  simp [Oper.about, ho, resolve, Target.leads, Sem.run_pure]
 ·
  rw [Oper.semAt_plain F _ _ (by rw [ho]; intro c hc'; cases hc')]
  simp [execOp, ho, resolve, invoke, builtin, hs, hx, hr, Result.andThen]
  exact hK' _ _ (h v' w' h2 h3)
end
end
section
open Go.Shelf
attribute [local go_sem] Oper.semAt_some
@[local go_sem ↓] theorem yra {P : Program} (l : Option Nat) (ρ : Operand → Value) (o : Oper) (w : World) (h : ∀ c, o.op ≠ .defer c) : (Oper.semAt l ρ o).run P w = (execOp ρ o).run P w := by rw [Oper.semAt_eq l ρ o h]
theorem z1m (p : Option Addr) (n c : Nat) (w : World) :
  Calls Tryz.prog 152 #[.slice p n c] w fun e w' => e = .returned (.func (.func 160) #[] #[.pointer (some ⟨w.heap.size, 0, none⟩)]) ∧ w' = w.alloc (.cells #[.slice p n c] 34) := by
 go_enter Tryz.func152, Tryz.ntmps152
 go_wp2_with fail
 go_ret
 exact ⟨rfl, rfl⟩
theorem zpz (d s0 n₀ D bx n c : Nat) (p : Option Addr) (L : List Lk) (w : World) (hs : s0 ≤ n₀) (hn₀ : n₀ ≤ w.heap.size) (hn : n ≤ 1000) (hl : L.length = n) (q1 : bx < n₀) (q2 : bx ≠ D)
  (t0 : w.heap[bx]? = some (.cells #[.slice p n c] 34 (0, 0))) (hS : SlE Elk w (.slice p n c) L) (hq : ∀ b o, p = some ⟨b, o, none⟩ → 0 < n → b < n₀ ∧ b ≠ D) :
  SeqStopsK Fence.wide d Tryz.prog 160 #[.pointer (some ⟨bx, 0, none⟩)] (fun x : Lk => #[Value.agg (lk x)]) (But s0 n₀ D) (fun ys => ys = L) (fun pre => pre <+: L) L.length w := by
 intro lo J Jx W hW hAJ _ hY hJ0
 have HT : Hid (∀ W', But s0 n₀ D w W' → W'.heap[bx]? = some (.cells #[.slice p n c] 34 (0, 0))) := fun W' g => g.blk q1 q2 t0
 have HX : Hid (∀ j, j < n → ∃ b o, p = some ⟨b, o, none⟩ ∧ ∀ W', But s0 n₀ D w W' → ldA W' (.pointer (some ⟨b, o + j * 67, none⟩)) 67 = some (lk (lkAt L j))) := fun j hj => by
  obtain ⟨b, o, e, _, x⟩ := zjm hS (by omega)
  obtain ⟨h1, h2⟩ := hq b o e (by omega)
  exact ⟨b, o, e, fun W' g => zob (zn3 (g.block b h1 h2) x) (by omega)⟩
 have HG0 : Hid (But s0 n₀ D w W) := But.of_below (hW.mono hn₀) hs
 have HS : Hid (∀ W', But s0 n₀ D w W' → ∀ W2, Below W'.heap.size W' W2 → But s0 n₀ D w W2) := fun W' g W2 k => g.then k hs (Nat.le_trans hn₀ g.below.size)
 have HAJ : Hid (∀ pre W1 W', J pre W1 → Below W1.heap.size W1 W' → J pre W') := fun pre W1 W' hj g => hAJ pre W1 W' none hj (zbw g) (fun r e => by cases e)
 have HY := Lib.hid hY
 have HJ0 := Lib.hid hJ0
 have HN := Lib.hid hn
 have HL := Lib.hid hl
 clear hY hJ0 hW hAJ t0 hS hq hs hn₀ hn hl q1 q2
 have e0 := (zao (HT.out _ HG0.out)).1
 refine callsIn_of_wp Tryz.func160 rfl trivial ?_ rfl
 simp only [Tryz.ntmps160, List.size_toArray, List.length_cons, List.length_nil, Nat.reduceAdd, Nat.reduceSub, Array.replicate_succ, Array.replicate_zero, List.push_toArray, List.append_toArray, List.nil_append, List.cons_append]
 gi_wp2
 clear e0
 gi_loopw [7] (fun u wr => ∃ (j : Nat), u = .int .i64 (j : Int) ∧ j ≤ n ∧ But s0 n₀ D w wr ∧ J (L.take j) wr) (fun u _ => n - (intOf u).toNat)
 case atStart => exact ⟨0, rfl, Nat.zero_le _, HG0.out, HJ0.out⟩
 case round =>
  obtain ⟨j, rfl, hj, hg, hjj⟩ := hrel
  have HG := Lib.hid hg
  have HJ := Lib.hid hjj
  clear hg hjj
  by_cases hlt : j < n
  ·
   have d0 : decide ((j : Int) < (n : Int)) = true := decide_eq_true (by omega)
   have d0' : decide (j < n) = true := decide_eq_true hlt
   have i0 : (0 : Int) ≤ (j : Int) := by omega
   have i1 : (j : Int) < (n : Int) := by omega
   have u1 : (j : Int) + 1 < 10000 := by have := HN.out; omega
   have HLT := Lib.hid hlt
   obtain ⟨b, o, rfl, hx⟩ := HX.out j hlt
   have y1 := hx wr HG.out
   have HTk : Hid (L.take (j + 1) = L.take j ++ [lkAt L j]) := by
    show _ = _
    rw [zcm (by have := HL.out; omega), List.take_add_one, List.getElem?_eq_getElem (by have := HL.out; omega)]
    rfl
   have HPf : Hid (L.take j ++ [lkAt L j] <+: L) := by show _ <+: _; rw [← HTk.out]; exact List.take_prefix _ _
   generalize lkAt L j = X at *
   have HG5 : Hid (But s0 n₀ D w (wr.alloc (.cells (lk X) 110))) := HS.out _ HG.out _ below1
   have HJ5 : J (L.take j) (wr.alloc (.cells (lk X) 110)) := HAJ.out _ _ _ HJ.out below1
   obtain ⟨fn, tmps, assign, body, hy, hR⟩ := HY.out _ X _ HJ5 (by rw [List.length_take, HL.out]; omega)
   have HRR := Lib.hid hR
   clear hR hx hlt hj HJ5
   gi_wp2
   refine ⟨fun h => (by cases h), RoundIn.mono HRR.out ?_⟩
   rintro e W3 (⟨rfl, hJ3, hk3⟩ | ⟨rfl, hJx3⟩)
   ·
    have HG3 := Lib.hid (HG5.out.trans hk3)
    rw [← HTk.out] at hJ3
    have HJ3 := Lib.hid hJ3
    clear hJ3 hk3
    gi_wp2
    go_roundw
    case rel => exact ⟨j + 1, by go_num, HLT.out, HG3.out, HJ3.out⟩
    case measure => simp [intOf]; have := HLT.out; omega
   ·
    have HJ3 := Lib.hid hJx3
    clear hJx3
    gi_wp2
    refine bodyPost_ret (results_none rfl _ _ _) rfl ?_
    exact ⟨⟨_, rfl⟩, .inr ⟨_, HPf.out, HJ3.out⟩⟩
  ·
   obtain rfl : j = n := by omega
   have HF : Hid (L.take j = L) := List.take_of_length_le (by rw [HL.out]; exact Nat.le_refl _)
   clear hlt
   gi_wp2
   go_end0
   exact ⟨⟨_, rfl⟩, .inl ⟨_, HF.out, HJ.out⟩⟩
theorem zf9 : ∀ args w, (callFunc 160 args).run Tryz.prog w = .ok (.enter 160 args) w := zbb Tryz.func160 (by kernel_rfl) (by kernel_rfl)
end
section
open Go.Maps
open Go.RowKit Go.Maps
def iL (i : Nat) : DataW Unit := .lit (.int .i64 (i : Int))
def plD (l : List Nd) : Nat → DataW Unit
 | 0 => .map []
 | k + 1 => (plD l k).put (rk (nd l k).root) (iL k)
section
variable {l : List Nd}
theorem znc (l : List Nd) : ∀ k, Tidy (plD l k)
 | 0 => tidy_empty
 | k + 1 => (znc l k).put (zmz _) _
theorem zts (l : List Nd) (r : Rt) : ∀ k, Maps.has (plD l k) (rk r) = true ↔ ∃ i, i < k ∧ (nd l i).root = r
 | 0 => ⟨fun h => (by cases h), fun ⟨_, h, _⟩ => absurd h (Nat.not_lt_zero _)⟩
 | k + 1 => by
  unfold plD
  by_cases e : (nd l k).root = r
  ·
   rw [e, has_put_same (znc l k).isMap (zmz r)]
   exact ⟨fun _ => ⟨k, Nat.lt_succ_self k, e⟩, fun _ => rfl⟩
  ·
   rw [has_put_other (fun h => e (yhv h).symm), zts l r k]
   constructor
   ·
    rintro ⟨i, hi, h⟩; exact ⟨i, by omega, h⟩
   ·
    rintro ⟨i, hi, h⟩
    rcases Nat.lt_succ_iff_lt_or_eq.1 hi with h1 | rfl
    ·
     exact ⟨i, h1, h⟩
    ·
     exact absurd h e
theorem yk1 {r : Rt} {k : Nat} (h : ∀ i, i < k → (nd l i).root ≠ r) : Maps.has (plD l k) (rk r) = false := by
 rw [← Bool.not_eq_true, zts]
 rintro ⟨i, hi, e⟩
 exact h i hi e
theorem ynv {r : Rt} {i : Nat} (z : DataW Unit) (hr : (nd l i).root = r) : ∀ k, i < k → (∀ j, i < j → j < k → (nd l j).root ≠ r) → (plD l k).atKey (rk r) z = iL i
 | 0, h, _ => absurd h (Nat.not_lt_zero _)
 | k + 1, h, hj => by
  unfold plD
  by_cases e : i = k
  ·
   subst e
   rw [hr]
   exact atKey_put_same (znc l i).isMap (zmz r) _ _
  ·
   rw [atKey_put_other (fun h2 => hj k (by omega) (Nat.lt_succ_self k) (yhv h2).symm)]
   exact ynv z hr k (by omega) fun j h1 h2 => hj j h1 (by omega)
theorem zr3 (l : List Nd) : ∀ k, Maps.size (plD l k) ≤ k
 | 0 => Nat.le_refl _
 | k + 1 => by
  have ih := zr3 l k
  unfold plD
  rw [size_put (znc l k)]
  split <;> omega
theorem z50 (l : List Nd) : ∀ k, Maps.size (plD l k) = k ↔ ∀ i, i < k → ∀ j, j < i → (nd l j).root ≠ (nd l i).root
 | 0 => ⟨fun _ i h => absurd h (Nat.not_lt_zero _), fun _ => rfl⟩
 | k + 1 => by
  have ih := z50 l k
  have hle := zr3 l k
  unfold plD
  rw [size_put (znc l k)]
  by_cases hh : Maps.has (plD l k) (rk (nd l k).root) = true
  ·
   rw [if_pos hh]
   obtain ⟨i, hi, e⟩ := (zts l _ k).1 hh
   exact ⟨fun h => by omega, fun h => absurd e (h k (Nat.lt_succ_self k) i hi)⟩
  ·
   rw [if_neg hh]
   constructor
   ·
    intro h i hi j hj
    rcases Nat.lt_succ_iff_lt_or_eq.1 hi with h1 | rfl
    ·
     exact ih.1 (by omega) i h1 j hj
    ·
     intro e
     exact hh ((zts l _ i).2 ⟨j, hj, e⟩)
   ·
    intro h
    have := ih.2 fun i hi j hj => h i (by omega) j hj
    omega
theorem yjr (h : MayT l) (r : Rt) : Maps.has (plD l l.length) (rk r) = decide (0 ≤ zay l r) ∧ (0 ≤ zay l r → (plD l l.length).atKey (rk r) (iL 0) = .lit (.int .i64 (zay l r))) := by
 rcases ze3 h r with ⟨i, hi, e, hr⟩ | ⟨e, hn⟩
 ·
  rw [e]
  refine ⟨?_, fun _ => ynv _ hr _ hi fun j h1 h2 e2 => ?_⟩
  ·
   rw [(zts l r _).2 ⟨i, hi, hr⟩]
   exact (decide_eq_true (by omega)).symm
  ·
   have := h.roots hi h2 (hr.trans e2.symm)
   omega
 ·
  rw [e]
  exact ⟨by rw [yk1 hn]; rfl, fun h => by omega⟩
end
end
section
open Go.Maps
theorem z1a {P : Program} {T k e : TypeId} (hu : P.underlying T = some (.map k e)) (n : Int) (w : World) : (Instr.makeMap T (some (.int .i64 n))).run P w = .ok (.map (some w.heap.size)) (w.alloc (.map #[] 0)) := by
 simp only [Instr.makeMap]
 simp [run_underlying hu, asInt]
 rfl
def yvy (D : DataW Unit) (n : Nat) (w : World) (e : Ending) (w' : World) : Prop := ∃ b, e = .returned (.map (some b)) ∧ w'.ownsMap Tryz.prog 23 (plainElem Tryz.prog 3) b n D ∧ Below w.heap.size w w'
theorem zjt (p : Option Addr) (n cp : Nat) (l : List Nd) (w : World) (h : SlE Ene w (.slice p n cp) l) (hl : l.length = n) (hn : n ≤ 1000) :
  Calls Tryz.prog 49 #[.agg (tr ⟨⟨p, n, cp⟩⟩)] w (yvy (plD l n) n w) := by
 have hmm := z1a (P := Tryz.prog) Tryz.underlying89
 have HL := Lib.hid hl
 have HN := Lib.hid hn
 obtain ⟨W0, hW0⟩ : ∃ W0, W0 = w.alloc (.cells (tr ⟨⟨p, n, cp⟩⟩) 28) := ⟨_, rfl⟩
 have hB0 : Below w.heap.size w W0 := by rw [hW0]; exact below1
 have HS := Lib.hid (zac hB0 h)
 have M0 : Hid (W0.heap[w.heap.size]? = some (.cells (tr ⟨⟨p, n, cp⟩⟩) 28 (0, 0))) := by rw [hW0]; exact heap_alloc_last w _
 have HW := Lib.hid hW0
 have HB := Lib.hid hB0
 have Hb0 : Hid (W0.heap.size = w.heap.size + 1) := by rw [hW0]; exact World.size_alloc _ _
 clear hW0 h hl hn hB0
 go_enter Tryz.func49, Tryz.ntmps49
 go_wp2_with fail
 go_loopw [13] (fun i wr => ∃ j : Nat, j ≤ n ∧ i = .int .i64 (j : Int) ∧ wr.ownsMap Tryz.prog 23 (plainElem Tryz.prog 3) (w.heap.size + 1) j (plD l j) ∧ Below W0.heap.size W0 wr) (fun i _ => n - (intOf i).toNat)
 case atStart => exact ⟨0, Nat.zero_le _, rfl, by rw [← HW.out, ← Hb0.out]; exact World.ownsMap_made _ _ _ _, by rw [← HW.out]; exact below1⟩
 case round =>
  obtain ⟨j, hj, rfl, hown, hb⟩ := hrel
  have HO := Lib.hid hown
  have HBB := Lib.hid hb
  obtain ⟨z0, z1, zl⟩ := za2 (zab hb M0.out)
  dsimp only at z0
  rw [zat] at z0
  clear hown hb
  by_cases hlt : j < n
  ·
   have i0 : (0 : Int) ≤ (j : Int) := by omega
   have i1 : (j : Int) < (n : Int) := by omega
   have u1 : (j : Int) + 1 < 10000 := by have := HN.out; omega
   obtain ⟨b1, o1, rfl, q1, x1⟩ := zf4 HS.out (by have := HL.out; omega)
   have y1 := keep HBB.out (zwp x1 (i := j) (by have := HL.out; omega))
   have HXn : Hid (∃ x, x = nd l j) := ⟨_, rfl⟩
   clear x1 q1
   obtain ⟨x, hx⟩ := HXn.out
   rw [← hx] at y1
   have HXx := Lib.hid hx
   clear HXn hx
   go_wp2_with (at_mapUpdate; refine wpList_mapUpdate_own _ rfl _ _ _ 89 rfl 23 3 keyed_root Tryz.underlying89 (plainElem Tryz.prog 3) (w.heap.size + 1) j _ rfl (HO.out.alloc _) (by unfold maxLen; omega) _ _ _ rfl rfl (zhf x.root) _ [] (plainElem_int Tryz.underlying3 (WalkArith.wf_i64 (by omega))) ?_; intro w1 hown1 hgrow1)
   go_roundw
   case rel => exact ⟨j + 1, by omega, by go_num, by unfold plD; rw [← HXx.out]; exact hown1, (zad HBB.out below1).grown hgrow1 (by have := HBB.out.size; simp; omega) (fun k hk => by cases hk; rw [Hb0.out]; exact Nat.le_refl _)⟩
   case measure => simp [intOf]; omega
  ·
   obtain rfl : j = n := by omega
   clear hlt
   go_wp2_with fail
   go_ret
   exact ⟨_, rfl, HO.out, zad HB.out HBB.out⟩
theorem yav (s : SlV) (l : List Nd) (w : World) (h : SlE Ene w (sv s) l) (hn : l.length ≤ 1000) :
  Calls Tryz.prog 49 #[.agg (tr ⟨s⟩)] w (yvy (plD l l.length) l.length w) := by
 have hs := zdm h
 obtain ⟨p, n, cp⟩ := s
 dsimp only at hs
 subst hs
 exact zjt p _ cp l w h rfl hn
theorem zmn : ∀ args w, (callFunc 49 args).run Tryz.prog w = .ok (.enter 49 args) w := zbb Tryz.func49 (by kernel_rfl) (by kernel_rfl)
def zhb (l : List Nd) (i : Nat) : Prop := (i = 0 → (nd l i).parent = -1) ∧ (0 < i → 0 ≤ (nd l i).parent ∧ (nd l i).parent < i ∧ sl l (up l i) < sl l i)
instance (l : List Nd) (i : Nat) : Decidable (zhb l i) := by unfold zhb; exact inferInstance
theorem z9d (b1 o1 n cp : Nat) (l : List Nd) (i : Nat) (w : World) (hb : b1 < w.heap.size) (h : w.rangeAt b1 o1 (zan Ene l)) (hl : l.length = n) (hn : n ≤ 1000) (hi : i < n) :
  Calls Tryz.prog 80 #[.agg (tr ⟨⟨some ⟨b1, o1, none⟩, n, cp⟩⟩), .int .i64 (i : Int)] w fun e w' => e = .returned (.bool (decide (zhb l i))) ∧ Below w.heap.size w w' := by
 have HB : Hid (Below w.heap.size w (w.alloc (.cells (tr ⟨⟨some ⟨b1, o1, none⟩, n, cp⟩⟩) 28))) := below1
 have X1 := Lib.hid h
 have HN := Lib.hid hn
 have HL := Lib.hid hl
 have HI := Lib.hid hi
 have i0 : (0 : Int) ≤ (i : Int) := by omega
 have i1 : (i : Int) < (n : Int) := by omega
 have y1 := z2u h (i := i) (by omega)
 have y2 := zk3 h (i := i) (by omega)
 obtain ⟨r, hr⟩ : ∃ r, r = decide (zhb l i) := ⟨_, rfl⟩
 rw [← hr]
 have HR := Lib.hid hr
 obtain ⟨q, hq⟩ : ∃ q, q = (nd l i).parent := ⟨_, rfl⟩
 rw [← hq] at y1
 have HQ := Lib.hid hq
 clear h hn hl hr hq hi
 by_cases h0 : i = 0
 ·
  subst h0
  have HR' : Hid (r = (q == -1)) := by
   show r = _
   rw [HR.out, Bool.eq_iff_iff, decide_eq_true_iff, beq_iff_eq, HQ.out]
   unfold zhb
   exact ⟨fun h => h.1 rfl, fun h => ⟨fun _ => h, fun h => absurd h (Nat.lt_irrefl _)⟩⟩
  go_enter Tryz.func80, Tryz.ntmps80
  rw [Nat.zero_mul, Nat.add_zero] at y1
  go_wp2_with fail
  go_ret
  exact ⟨by rw [HR'.out]; first | done | rfl, HB.out⟩
 ·
  have c0 : ((i : Int) == 0) = false := by simpa using h0
  have c0' : decide ((i : Int) = 0) = false := by simpa using h0
  have c0'' : decide (i = 0) = false := by simpa using h0
  have H0 : Hid (0 < i) := Nat.pos_of_ne_zero h0
  have HF : Hid (¬ (0 ≤ q ∧ q < i ∧ sl l q.toNat < sl l i) → r = false) := fun hno => by
   rw [HR.out, decide_eq_false_iff_not]
   intro hbt
   have := hbt.2 H0.out
   unfold up at this
   rw [← HQ.out] at this
   exact hno this
  clear h0
  by_cases hp : 0 ≤ q
  ·
   have t1 : decide (0 ≤ q) = true := decide_eq_true hp
   by_cases hlt : q < (i : Int)
   ·
    have t2 : decide (q < (i : Int)) = true := decide_eq_true hlt
    obtain ⟨m, rfl⟩ : ∃ m : Nat, q = m := ⟨q.toNat, by omega⟩
    have t1' : decide ((0 : Int) ≤ (m : Int)) = true := t1
    have t2' : decide (m < i) = true := by rw [decide_eq_true_iff]; omega
    have i2 : (m : Int) < (n : Int) := by have := HI.out; omega
    have i3 : (0 : Int) ≤ (m : Int) := by omega
    have y3 := zk3 X1.out (i := m) (by have := HL.out; have := HI.out; omega)
    obtain ⟨v, hv⟩ : ∃ v, v = decide ((nd l m).slot.toNat < (nd l i).slot.toNat) := ⟨_, rfl⟩
    have HR' : Hid (r = v) := by
     show r = _
     rw [HR.out, hv]
     congr 1
     rw [eq_iff_iff]
     unfold zhb up
     rw [← HQ.out, Int.toNat_natCast]
     exact ⟨fun h => (h.2 H0.out).2.2, fun h => ⟨fun e => by have := H0.out; omega, fun _ => ⟨by omega, by omega, h⟩⟩⟩
    have t3 : decide ((nd l m).slot.toNat < (nd l i).slot.toNat) = v := hv.symm
    have t3' : decide (((nd l m).slot.toNat : Int) < ((nd l i).slot.toNat : Int)) = v := by rw [hv]; congr 1; rw [eq_iff_iff]; omega
    clear hp hlt hv t1
    go_enter Tryz.func80, Tryz.ntmps80
    go_wp2_with fail
    go_quiet (fail)
    go_wp2_with fail
    go_ret
    exact ⟨by rw [HR'.out]; first | done | rfl, zap HB.out _⟩
   ·
    have t2 : decide (q < (i : Int)) = false := decide_eq_false hlt
    have hR : Hid (r = false) := HF.out (fun h => hlt h.2.1)
    clear hp hlt
    go_enter Tryz.func80, Tryz.ntmps80
    go_wp2_with fail
    go_quiet (fail)
    go_wp2_with fail
    go_ret
    exact ⟨by rw [hR.out]; first | done | rfl, zap HB.out _⟩
  ·
   have t1 : decide (0 ≤ q) = false := decide_eq_false hp
   have hR : Hid (r = false) := HF.out (fun h => hp h.1)
   clear hp
   go_enter Tryz.func80, Tryz.ntmps80
   go_wp2_with fail
   go_quiet (fail)
   go_wp2_with fail
   go_ret
   exact ⟨by rw [hR.out]; first | done | rfl, zap HB.out _⟩
theorem z7a (l : List Nd) : MayT l ↔ 1 ≤ l.length ∧ l.length ≤ 12 ∧ (∀ i, i < l.length → sl l i ≤ 1099511627776 ∧ zhb l i) ∧ Maps.size (plD l l.length) = l.length := by
 rw [z50]
 unfold MayT z6h zhb
 exact ⟨fun h => ⟨h.1, h.2.1, fun i hi => ⟨(h.2.2 i hi).1, (h.2.2 i hi).2.1, (h.2.2 i hi).2.2.1⟩, fun i hi j hj => (h.2.2 i hi).2.2.2 j hj⟩,
  fun h => ⟨h.1, h.2.1, fun i hi => ⟨(h.2.2.1 i hi).1, (h.2.2.1 i hi).2.1, (h.2.2.1 i hi).2.2, fun j hj => h.2.2.2 i hi j hj⟩⟩⟩
theorem z20 (p : Option Addr) (n cp : Nat) (w : World) (hn : n = 0 ∨ 12 < n) :
  Calls Tryz.prog 48 #[.agg (tr ⟨⟨p, n, cp⟩⟩)] w fun e w' => e = .returned (.bool false) ∧ Below w.heap.size w w' := by
 have HB : Hid (Below w.heap.size w (w.alloc (.cells (tr ⟨⟨p, n, cp⟩⟩) 28))) := below1
 rcases hn with rfl | hn
 ·
  go_enter Tryz.func48, Tryz.ntmps48
  go_wp2_with fail
  go_ret
  exact ⟨rfl, HB.out⟩
 ·
  have t0 : ((n : Int) == 0) = false := by simp; omega
  have t0' : decide (n = 0) = false := by simp; omega
  have t1 : decide ((12 : Int) < (n : Int)) = true := by rw [decide_eq_true_iff]; omega
  have t1' : decide (12 < n) = true := decide_eq_true hn
  clear hn
  go_enter Tryz.func48, Tryz.ntmps48
  go_wp2_with fail
  go_ret
  exact ⟨rfl, HB.out⟩
theorem z1f (b1 o1 n cp : Nat) (l : List Nd) (w : World) (hb : b1 < w.heap.size) (h : w.rangeAt b1 o1 (zan Ene l)) (hcp : n ≤ cp) (hl : l.length = n) (h0 : 0 < n) (hn : n ≤ 12) :
  Calls Tryz.prog 48 #[.agg (tr ⟨⟨some ⟨b1, o1, none⟩, n, cp⟩⟩)] w fun e w' => e = .returned (.bool (decide (MayT l))) ∧ Below w.heap.size w w' := by
 obtain ⟨W0, hW0⟩ : ∃ W0, W0 = w.alloc (.cells (tr ⟨⟨some ⟨b1, o1, none⟩, n, cp⟩⟩) 28) := ⟨_, rfl⟩
 have hB0 : Below w.heap.size w W0 := by rw [hW0]; exact below1
 have M0 : Hid (W0.heap[w.heap.size]? = some (.cells (tr ⟨⟨some ⟨b1, o1, none⟩, n, cp⟩⟩) 28 (0, 0))) := by rw [hW0]; exact heap_alloc_last w _
 have X1 := Lib.hid (zhd hB0 h)
 have Q1 : Hid (b1 < W0.heap.size) := Nat.lt_of_lt_of_le hb hB0.size
 have HW := Lib.hid hW0
 have HB := Lib.hid hB0
 have HN := Lib.hid hn
 have HL := Lib.hid hl
 have HCP := Lib.hid hcp
 have H0 := Lib.hid h0
 obtain ⟨r, hr⟩ : ∃ r, r = decide (MayT l) := ⟨_, rfl⟩
 rw [← hr]
 have HR := Lib.hid hr
 have HNo : Hid (∀ i, i < n → ¬ (sl l i ≤ 1099511627776 ∧ zhb l i) → r = false) := by
  intro i hi hno
  rw [hr, decide_eq_false_iff_not, z7a]
  exact fun hm => hno (hm.2.2.1 i (by omega))
 have t0 : ((n : Int) == 0) = false := by simp; omega
 have t0' : decide (n = 0) = false := by simp; omega
 have t1 : decide ((12 : Int) < (n : Int)) = false := by rw [decide_eq_false_iff_not]; omega
 have t1' : decide (12 < n) = false := by rw [decide_eq_false_iff_not]; omega
 clear hW0 hB0 h hb hcp hl h0 hn hr
 go_enter Tryz.func48, Tryz.ntmps48
 go_wp2_with fail
 rw [← HW.out]
 clear t0 t0' t1 t1'
 go_loopw [17, 3] (fun i _ wr => ∃ j : Nat, j ≤ n ∧ i = .int .i64 (j : Int) ∧ (∀ k, k < j → sl l k ≤ 1099511627776 ∧ zhb l k) ∧ Below W0.heap.size W0 wr) (fun i _ _ => n - (intOf i).toNat)
 case atStart => exact ⟨0, Nat.zero_le _, rfl, fun k hk => absurd hk (Nat.not_lt_zero _), Below.refl _ _⟩
 case round =>
  obtain ⟨j, hj, rfl, hx, hb⟩ := hrel
  have HX := Lib.hid hx
  have HBB := Lib.hid hb
  obtain ⟨z0, z1, zl⟩ := za2 (zab hb M0.out)
  dsimp only at z0
  rw [zat] at z0
  clear hx hb
  by_cases hlt : j < n
  ·
   have i0 : (0 : Int) ≤ (j : Int) := by omega
   have i1 : (j : Int) < (n : Int) := by omega
   have u1 : (j : Int) + 1 < 10000 := by have := HN.out; omega
   have y2 := zk3 (zhd HBB.out X1.out) (i := j) (by have := HL.out; omega)
   by_cases hs : 1099511627776 < (nd l j).slot.toNat
   ·
    have t1 : decide ((1099511627776 : Int) < ((nd l j).slot.toNat : Int)) = true := by rw [decide_eq_true_iff]; omega
    have t1' : decide (1099511627776 < (nd l j).slot.toNat) = true := decide_eq_true hs
    have hR : Hid (r = false) := HNo.out j hlt (fun ho => by have := ho.1; unfold sl at this; omega)
    clear hs
    go_wp2_with fail
    go_ret
    exact ⟨by rw [hR.out]; first | done | rfl, zad HB.out HBB.out⟩
   ·
    have t1 : decide ((1099511627776 : Int) < ((nd l j).slot.toNat : Int)) = false := by rw [decide_eq_false_iff_not]; omega
    have t1' : decide (1099511627776 < (nd l j).slot.toNat) = false := decide_eq_false hs
    have HS : Hid (sl l j ≤ 1099511627776) := by show sl l j ≤ _; unfold sl; omega
    have HC := Lib.hid (z9d b1 o1 n cp l j wr (Nat.lt_of_lt_of_le Q1.out HBB.out.size) (zhd HBB.out X1.out) HL.out (by have := HN.out; omega) hlt)
    obtain ⟨c, hc⟩ : ∃ c, c = decide (zhb l j) := ⟨_, rfl⟩
    rw [← hc] at HC
    have HCc := Lib.hid hc
    clear hs hc
    go_wp2_with fail
    refine HC.out.mono ?_
    rintro e w1 ⟨rfl, g1⟩
    have G1 := Lib.hid (zad HBB.out g1)
    clear g1
    cases c
    ·
     have hR : Hid (r = false) := HNo.out j hlt (fun ho => by have := HCc.out; rw [decide_eq_true ho.2] at this; cases this)
     go_wp2_with fail
     go_ret
     exact ⟨by rw [hR.out]; first | done | rfl, zad HB.out G1.out⟩
    ·
     go_wp2_with fail
     go_roundw
     case rel => exact ⟨j + 1, by omega, by go_num, fun k hk => by
      rcases Nat.lt_succ_iff_lt_or_eq.1 hk with h | rfl
      ·
       exact HX.out k h
      ·
       exact ⟨HS.out, of_decide_eq_true HCc.out.symm⟩, G1.out⟩
     case measure => simp [intOf]; omega
  ·
   obtain rfl : j = n := by omega
   obtain ⟨m, hm⟩ : ∃ m, m = Maps.size (plD l j) := ⟨_, rfl⟩
   have hR : r = decide (m = j) := by
    rw [HR.out, hm]
    congr 1
    rw [eq_iff_iff, z7a, HL.out]
    exact ⟨fun h => h.2.2.2, fun h => ⟨H0.out, HN.out, HX.out, h⟩⟩
   have s1 : ((m : Int) == (j : Int)) = r := by rw [hR, Bool.eq_iff_iff, beq_iff_eq, decide_eq_true_iff]; omega
   have s2 : decide (m = j) = r := hR.symm
   have HM := Lib.hid hm
   clear hlt hR hm
   go_wp2_with fail
   have Lc := fun q : Wd wr.drew => yvb (zab HBB.out M0.out) q
   have Ld := fun q : Wd wr.drew => za3 z0 q
   refine za4 [1] (by kernel_rfl) (by kernel_rfl) (by kernel_rfl) ?_
   repeat (refine zae rfl rfl _ zag ?_; (first | go_big_quiet_step (fail) | quiet_step (fail)); refine wpQuiet_nil ?_)
   refine zau rfl rfl rfl zmn #[.agg (tr ⟨⟨some ⟨b1, o1, none⟩, j, cp⟩⟩)] rfl ?_
   refine (zjt (some ⟨b1, o1, none⟩) j cp l _ (zac (zad HBB.out (zap (Below.refl _ _) 1)) ⟨some ⟨b1, o1, none⟩, cp, by rw [HL.out], by rw [HL.out]; exact HCP.out, .inr ⟨b1, o1, rfl, Q1.out, X1.out⟩⟩) HL.out (by have := HN.out; omega)).mono ?_
   rintro e u ⟨b, rfl, ho, g⟩
   refine ⟨_, rfl, g, ?_⟩
   simp only [Act.put, List.setIfInBounds_toArray, List.set_cons_zero, List.set_cons_succ]
   have Le := fun (q : Wd u) (ty : TypeId) => (zb6 q.h ho).len Tryz.underlying89 ty
   rw [← HM.out] at Le
   have G := Lib.hid (zad (zad HBB.out (zap (Below.refl _ _) 1)) g)
   clear g ho
   refine zae rfl rfl u (yhp 1 u (by simp) (by kernel_rfl)) ?_
   (first | go_big_quiet_step (fail) | quiet_step (fail))
   refine wpQuiet_nil ?_
   repeat (refine zae rfl rfl _ zag ?_; (first | go_big_quiet_step (fail) | quiet_step (fail)); refine wpQuiet_nil ?_)
   refine zbx ?_
   go_wp2_with fail
   go_ret
   exact ⟨rfl, zad HB.out G.out⟩
theorem ziy (s : SlV) (l : List Nd) (w : World) (h : SlE Ene w (sv s) l) :
  Calls Tryz.prog 48 #[.agg (tr ⟨s⟩)] w fun e w' => e = .returned (.bool (decide (MayT l))) ∧ Below w.heap.size w w' := by
 have hs := zdm h
 obtain ⟨p, n, cp⟩ := s
 dsimp only at hs
 by_cases hf : n = 0 ∨ 12 < n
 ·
  have e : decide (MayT l) = false := by
   rw [decide_eq_false_iff_not]
   intro hm
   have := hm.1
   have := hm.2.1
   omega
  rw [e]
  exact z20 p n cp w hf
 ·
  obtain ⟨b, o, c, e1, hc, q, x⟩ := zc8 h (by omega)
  unfold sv at e1
  injection e1 with e2 e4 e3
  dsimp only at e2 e3
  subst e2 e3
  exact z1f b o n cp l w q x (by omega) hs (by omega) (by omega)
end
end Go.Proofs.YtmihlihlpdkdcaaGreat
