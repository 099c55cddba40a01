import Derived.Test.YtkalofboioffiaaGreatQ17
import Derived.RangeFuncNested
import Derived.RangeFuncBound
import Derived.RangeFuncLeaves
import Derived.RangeFuncFrom
import Derived.RangeFuncWrites
import Derived.Shelf.Abstract
import Derived.Shelf.RegionOpen
import Derived.OwnWalkIn
import Derived.TacticsInMore
import Derived.LoopNIn
import Derived.LoopIn
namespace Go.Proofs.YtkalofboioffiaaGreat
open Go.RowKit
set_option maxRecDepth 200000
set_option maxHeartbeats 64000000
section
open Go.Maps
theorem zzx (w : World) : (zeroValue 3).run Tryz.prog w = .ok (.int .i64 0) w := by kernel_rfl
theorem z03 {W : World} {b n : Nat} {D : DataW Unit} (h : W.ownsMap Tryz.prog 34 (plainElem Tryz.prog 3) b n D) {r : Rt} {c : Int} (hc : D.atKey (rk r) (iL 0) = .lit (.int .i64 c)) :
  (Instr.lookup 94 (.map (some b)) (.agg (rc r)) true).run Tryz.prog W = .ok (.tuple #[.int .i64 c, .bool (Maps.has D (rk r))]) W := by
 obtain ⟨v, ps, hrun, hv⟩ := h.look_ok keyed_root Tryz.underlying94 (zzx W) (plainElem_int Tryz.underlying3 (by decide)) (zge r)
 obtain ⟨a, rfl, hz, _⟩ := plainElem_int_inv Tryz.underlying3 hv
 have e : D.atKey (rk r) (.lit (.int .i64 0)) = .lit (.int .i64 a) := congrArg Prod.fst hz
 have hc' : D.atKey (rk r) (.lit (.int .i64 0)) = .lit (.int .i64 c) := hc
 rw [e] at hc'
 injection hc' with h1
 injection h1 with _ h2
 rw [← h2]
 exact hrun
def putR (l : List Nd) (r : Rt) : Int := if 0 ≤ zal l r then zal l r else 0
theorem zvw {l : List Nd} (h : MayT l) (r : Rt) : (plD l l.length).atKey (rk r) (iL 0) = .lit (.int .i64 (putR l r)) ∧ Maps.has (plD l l.length) (rk r) = decide (0 ≤ zal l r) := by
 obtain ⟨h1, h2⟩ := yhh h r
 refine ⟨?_, h1⟩
 unfold putR
 by_cases hf : 0 ≤ zal l r
 ·
  rw [if_pos hf]; exact h2 hf
 ·
  rw [if_neg hf]
  exact atKey_of_not_has (by rw [h1]; exact decide_eq_false hf) _
theorem zdh (s : SlV) (l : List Nd) (r : Rt) (w : World) (h : SlE Ene w (sv s) l) :
  Calls Tryz.prog 21 #[.agg (tr ⟨s⟩), .agg (rc r)] w fun e w' => e = .returned (.int .i64 (zal l r)) ∧ Below w.heap.size w w' := by
 have HM := Lib.hid (fun W (g : Below w.heap.size w W) => ze3 s l W (zad g h))
 have HS := Lib.hid h
 obtain ⟨a, ha⟩ : ∃ a, a = decide (MayT l) := ⟨_, rfl⟩
 rw [← ha] at HM
 have HA := Lib.hid ha
 obtain ⟨W0, hW0⟩ : ∃ W0, W0 = (w.alloc (.cells (tr ⟨s⟩) 24)).alloc (.cells (rc r) 34) := ⟨_, rfl⟩
 obtain ⟨hB, h0, h1, hz⟩ := zdb w _ _ _ _ W0 hW0
 have HB := Lib.hid hB
 have H0 := Lib.hid h0
 have H1 := Lib.hid h1
 have HW := Lib.hid hW0
 obtain ⟨x, hx⟩ : ∃ x, x = zal l r := ⟨_, rfl⟩
 rw [← hx]
 have HX := Lib.hid hx
 clear h hW0 hB h0 h1 hz ha hx
 go_enter Tryz.func21, Tryz.ntmps21
 go_wp2_with fail
 rw [← HW.out]
 refine (HM.out W0 HB.out).mono ?_
 rintro e w1 ⟨rfl, g1⟩
 have G1 := Lib.hid (zac HB.out g1)
 have N0 := Lib.hid (zab g1 H0.out)
 have N1 := Lib.hid (zab g1 H1.out)
 clear g1
 cases a
 ·
  have hX : Hid (x = -1) := by show x = -1; rw [HX.out]; exact ygc (fun hm => by have := HA.out; rw [decide_eq_true hm] at this; cases this) r
  go_wp2_with fail
  go_ret
  exact ⟨by rw [hX.out]; first | done | rfl, G1.out⟩
 ·
  have HMl := Lib.hid (of_decide_eq_true HA.out.symm)
  have hx := HX.out
  obtain ⟨c, hc⟩ : ∃ c, c = putR l r := ⟨_, rfl⟩
  obtain ⟨q, hq⟩ : ∃ q, q = decide (0 ≤ x) := ⟨_, rfl⟩
  have hlk := zvw HMl.out r
  rw [← hc, ← hx, ← hq] at hlk
  have HLK := Lib.hid hlk
  have HXF : Hid (q = false → -1 = x) := fun e => by
   have := yaj (l := l) r
   rw [e] at hq
   have := of_decide_eq_false hq.symm
   omega
  have HXT : Hid (q = true → c = x) := fun e => by
   rw [e] at hq
   have := of_decide_eq_true hq.symm
   rw [hc]; unfold putR
   rw [if_pos (by omega)]; exact hx.symm
  clear hx hc hq hlk
  go_wp2_with fail
  have La := fun q : Wd w1.drew => yq9 N0.out q
  have Lb := fun q : Wd w1.drew => za8 (zag N1.out (zav r)) (by decide) q
  refine zan [1] (by kernel_rfl) (by kernel_rfl) (by kernel_rfl) ?_
  repeat (refine zae rfl rfl _ zaf ?_; (first | go_big_quiet_step (fail) | quiet_step (fail)); refine wpQuiet_nil ?_)
  refine zau rfl rfl rfl zk5 #[.agg (tr ⟨s⟩)] rfl ?_
  refine (z8c s l _ (zad (zac G1.out (zak (Below.refl _ _) 1)) HS.out) (by have := HMl.out.le; omega)).mono ?_
  rintro e u ⟨b, rfl, ho, g⟩
  refine ⟨_, rfl, g, ?_⟩
  simp only [Act.put, List.setIfInBounds_toArray, List.set_cons_zero, List.set_cons_succ]
  have Lc := fun q : Wd u => z03 (zci q.h ho) HLK.out.1
  rw [HLK.out.2] at Lc
  have G := Lib.hid (zac (zac G1.out (zak (Below.refl _ _) 1)) g)
  clear g ho
  refine zae rfl rfl _ zaf ?_
  (first | go_big_quiet_step (fail) | quiet_step (fail))
  refine wpQuiet_nil ?_
  refine zae rfl rfl u (z9l 1 u (by simp) (by kernel_rfl)) ?_
  (first | go_big_quiet_step (fail) | quiet_step (fail))
  refine wpQuiet_nil ?_
  repeat (refine zae rfl rfl _ zaf ?_; (first | go_big_quiet_step (fail) | quiet_step (fail)); refine wpQuiet_nil ?_)
  refine zbd ?_
  cases q
  ·
   have hX : Hid (-1 = x) := HXF.out rfl
   go_wp2_with fail
   go_ret
   exact ⟨by rw [← hX.out]; first | done | rfl, G.out⟩
  ·
   have hX : Hid (c = x) := HXT.out rfl
   go_wp2_with fail
   go_ret
   exact ⟨by rw [← hX.out]; first | done | rfl, G.out⟩
theorem zuq : ∀ args w, (callFunc 21 args).run Tryz.prog w = .ok (.enter 21 args) w := zbe Tryz.func21 (by kernel_rfl) (by kernel_rfl)
end
theorem zf3 (s : SlV) (l : List Nd) (i : Int) (w : World) (h : SlE Ene w (sv s) l) :
  Calls Tryz.prog 50 #[.agg (tr ⟨s⟩), .int .i64 i] w fun e w' => e = .returned (.bool (isT l i)) ∧ Below w.heap.size w w' := by
 have HM := Lib.hid (fun W (g : Below w.heap.size w W) => ze3 s l W (zad g h))
 have hl := zcn h
 obtain ⟨p, n, cp⟩ := s
 dsimp only at hl
 obtain ⟨r, hr⟩ : ∃ r, r = decide (MayT l) := ⟨_, rfl⟩
 rw [← hr] at HM
 obtain ⟨x, hx⟩ : ∃ x, x = isT l i := ⟨_, rfl⟩
 rw [← hx]
 have HX : Hid (x = (r && (decide (0 ≤ i) && decide (i < (n : Int))))) := by rw [hx, hr]; unfold isT; rw [hl]; rfl
 obtain ⟨W0, hW0⟩ : ∃ W0, W0 = w.alloc (.cells (tr ⟨⟨p, n, cp⟩⟩) 24) := ⟨_, rfl⟩
 have HB : Hid (Below w.heap.size w W0) := by rw [hW0]; exact below1
 have M0 : Hid (W0.heap[w.heap.size]? = some (.cells (tr ⟨⟨p, n, cp⟩⟩) 24 (0, 0))) := by rw [hW0]; exact heap_alloc_last w _
 have HW := Lib.hid hW0
 clear hW0 h hl hr hx
 go_enter Tryz.func50, Tryz.ntmps50
 go_wp2_with fail
 rw [← HW.out]
 refine (HM.out W0 HB.out).mono ?_
 rintro e w1 ⟨rfl, g1⟩
 have G1 := Lib.hid (zac HB.out g1)
 obtain ⟨z0, z1, zl⟩ := zaw (zab g1 M0.out)
 dsimp only at z0
 rw [za7] at z0
 cases r
 ·
  go_wp2_with fail
  go_ret
  exact ⟨by rw [HX.out]; rfl, G1.out⟩
 ·
  by_cases h0 : 0 ≤ i
  ·
   have t0 : decide (0 ≤ i) = true := decide_eq_true h0
   by_cases h1 : i < (n : Int)
   ·
    have t1 : decide (i < (n : Int)) = true := decide_eq_true h1
    have hX : Hid (x = true) := by show x = true; rw [HX.out, t0, t1]; rfl
    clear h0 h1
    go_wp2_with fail
    go_ret
    exact ⟨by rw [hX.out]; first | done | rfl, G1.out⟩
   ·
    have t1 : decide (i < (n : Int)) = false := decide_eq_false h1
    have hX : Hid (x = false) := by show x = false; rw [HX.out, t0, t1]; rfl
    clear h0 h1
    go_wp2_with fail
    go_ret
    exact ⟨by rw [hX.out]; first | done | rfl, G1.out⟩
  ·
   have t0 : decide (0 ≤ i) = false := decide_eq_false h0
   have hX : Hid (x = false) := by show x = false; rw [HX.out, t0]; rfl
   clear h0
   go_wp2_with fail
   go_ret
   exact ⟨by rw [hX.out]; first | done | rfl, G1.out⟩
def zr6 (l : List Nd) : Nat → Nat → List Nat
 | 0, i => [i]
 | f + 1, i => if i = 0 then [i] else i :: zr6 l f (up l i)
def zfa (l : List Nd) (i : Nat) : List Nat := zr6 l i i
section
variable {l : List Nd}
theorem z6d (h : MayT l) : ∀ (k : Nat), k < l.length → ∀ f, k ≤ f → zr6 l f k = zr6 l k k := by
 intro k
 induction k using Nat.strongRecOn with
 | _ k ih =>
  intro hk f hf
  by_cases h0 : k = 0
  ·
   subst h0
   cases f with
   | zero => rfl
   | succ f => simp [zr6]
  ·
   obtain ⟨_, hu, _⟩ := h.par (Nat.pos_of_ne_zero h0) hk
   obtain ⟨f', rfl⟩ : ∃ f', f = f' + 1 := ⟨f - 1, by omega⟩
   obtain ⟨k', hk'⟩ : ∃ k', k = k' + 1 := ⟨k - 1, by omega⟩
   have e1 := ih (up l k) hu (by omega) f' (by omega)
   have e2 := ih (up l k) hu (by omega) k' (by omega)
   rw [show zr6 l k k = zr6 l (k' + 1) k by rw [← hk']]
   simp only [zr6]
   rw [e1, e2]
theorem yba : zfa l 0 = [0] := rfl
theorem ya9 (h : MayT l) {k : Nat} (h0 : 0 < k) (hk : k < l.length) : zfa l k = k :: zfa l (up l k) := by
 obtain ⟨_, hu, _⟩ := h.par h0 hk
 obtain ⟨k', rfl⟩ : ∃ k', k = k' + 1 := ⟨k - 1, by omega⟩
 unfold zfa
 rw [show zr6 l (k' + 1) (k' + 1) = if k' + 1 = 0 then [k' + 1] else (k' + 1) :: zr6 l k' (up l (k' + 1)) from rfl]
 rw [if_neg (Nat.succ_ne_zero _), z6d h (up l (k' + 1)) (by omega) k' (by omega)]
theorem zx5 (h : MayT l) {k : Nat} (hk : k < l.length) : zfa l k = k :: (if k = 0 then [] else zfa l (up l k)) := by
 by_cases h0 : k = 0
 ·
  subst h0; rfl
 ·
  rw [if_neg h0, ya9 h (Nat.pos_of_ne_zero h0) hk]
theorem zja (h : MayT l) (i : Nat) : ∀ k, k < l.length → (i ∈ zfa l k ↔ zao l i k = true) := by
 intro k
 induction k using Nat.strongRecOn with
 | _ k ih =>
  intro hk
  by_cases h0 : k = 0
  ·
   subst h0
   rw [yba, zb1, List.mem_singleton, decide_eq_true_iff]
  ·
   obtain ⟨_, hu, _⟩ := h.par (Nat.pos_of_ne_zero h0) hk
   rw [ya9 h (Nat.pos_of_ne_zero h0) hk, zbq h i (Nat.pos_of_ne_zero h0) hk, List.mem_cons, ih _ hu (by omega)]
theorem ymo (h : MayT l) {k : Nat} (hk : k < l.length) {i : Nat} (hi : i ∈ zfa l k) : i < l.length := by
 have := ze7 h i k hk ((zja h i k hk).1 hi)
 omega
theorem ymn (h : MayT l) (s : Nat) : ∀ k, k < l.length → ∀ (q r : List Nat) (x : Nat), zfa l k = q ++ x :: r → (∀ y ∈ q, s < sl l y) → sl l x ≤ s → atT l k s = x := by
 intro k
 induction k using Nat.strongRecOn with
 | _ k ih =>
  intro hk q r x e hq hx
  rw [zx5 h hk] at e
  cases q with
  | nil =>
   rw [List.nil_append] at e
   injection e with e1 _
   subst e1
   exact zt4 h hk hx
  | cons y q =>
   rw [List.cons_append] at e
   injection e with e1 e2
   subst e1
   have h1 := hq k List.mem_cons_self
   by_cases h0 : k = 0
   ·
    rw [if_pos h0] at e2
    cases q <;> cases e2
   ·
    rw [if_neg h0] at e2
    obtain ⟨_, hu, _⟩ := h.par (Nat.pos_of_ne_zero h0) hk
    rw [zwy h s (Nat.pos_of_ne_zero h0) hk, if_neg (by omega)]
    exact ih _ hu (by omega) q r x e2 (fun z hz => hq z (List.mem_cons_of_mem _ hz)) hx
theorem ygr (h : MayT l) (s : Nat) {k : Nat} (hk : k < l.length) (ha : ∀ y ∈ zfa l k, s < sl l y) : atT l k s = -1 := by
 rcases zt5 h s k hk with ⟨e, _⟩ | ⟨n, _, hn, hab, hs, _⟩
 ·
  exact e
 ·
  have := ha n ((zja h n k hk).2 hab)
  omega
end
section
open Go.Shelf
theorem zaj {W : World} {B : Nat} {v : Value} {t : TypeId} (h : W.heap[B]? = some (.cells #[v] t (0, 0))) : W.cell? ⟨B, 0, none⟩ = some v ∧ W.frozen? ⟨B, 0, none⟩ = false := by
 constructor <;> simp [World.cell?, World.frozen?, h]
theorem zhj {F : Fence} {n : Nat} {P : Program} {fn : Func} {tmps : Array Value} {R : Ending → World → Prop} {W : World} {D : Nat} {v : Value} (hK : W.heap[D]? = some (.deferred (some [])))
  (h : (results fn tmps).run P (W.putObj D (.deferred none)) = .ok v (W.putObj D (.deferred none)) ∧ R (.returned v) (W.putObj D (.deferred none))) : LeavesInM F n P fn tmps R [{ target := .collected D, args := #[] }] .returning W :=
 ⟨by simp, .inl ⟨D, _, rfl, run_takeDeferred hK, ⟨v, h.1, h.2⟩⟩⟩
theorem zku {W : World} {D : Nat} {a : Addr} {v : Value} (hK : W.heap[D]? = some (.deferred (some []))) (hc : W.cell? a = some v) : (W.putObj D (.deferred none)).cell? a = some v :=
 cell_kept hc (grownBy_putObj' W D (.deferred none)) (fun r e => by cases e; exact ⟨_, hK, rfl⟩)
theorem zdc {B D : Nat} {w W : World} (hK : W.heap[D]? = some (.deferred (some []))) (h : Below B w W) (hB : B ≤ D) : Below B w (W.putObj D (.deferred none)) :=
 h.grown (grownBy_putObj' W D (.deferred none)) (by have := (Array.getElem?_eq_some_iff.1 hK).1; omega) (fun k e => by cases e; exact hB)
theorem z33 {α : Type} {B : Nat} {W0 : World} (p : List α → Prop) (hB : W0.heap.size ≤ B) : OwnFrom B (fun pre W => p pre ∧ Below W0.heap.size W0 W) :=
 OwnFrom.and (fun _ _ _ _ h _ _ => h) (ownFrom_below (Nat.le_refl _) hB)
theorem z34 {α : Type} {B : Nat} {w : World} (p : List α → Prop) (a : Addr) (v : List α → Value) (hB : w.heap.size ≤ B) : OwnFrom B (fun pre W => (p pre ∧ W.cell? a = some (v pre)) ∧ Below w.heap.size w W) :=
 OwnFrom.and (Own.from (fun _ _ _ _ hs hg hr => ⟨hs.1, cell_kept hs.2 hg hr⟩) _) (ownFrom_below (Nat.le_refl _) hB)
end
section
open Go.Shelf
attribute [local go_sem] Oper.semAt_some
theorem zwj (t : Tr) (i : Int) (w : World) :
  Calls Tryz.prog 51 #[.agg (tr t), .int .i64 i] w fun e w' => e = .returned (.func (.func 95) #[] #[.pointer (some ⟨w.heap.size + 1, 0, none⟩), .pointer (some ⟨w.heap.size, 0, none⟩)]) ∧ w' = (w.alloc (.cells (tr t) 24)).alloc (.cells #[.int .i64 i] 3) := by
 go_enter Tryz.func51, Tryz.ntmps51
 go_wp2_with fail
 go_ret
 exact ⟨rfl, rfl⟩
abbrev Ln (l : List Nd) (i : Nat) := { x : Nat // x ∈ zfa l i }
theorem zmz (F : Fence) (d : Nat) (hf : F.fn 95) (hro : F.round = none) (hd : 1 ≤ d) (bi bt b1 o1 n cp n₀ : Nat) (l : List Nd) (i : Nat) (w : World) (hm : MayT l) (hl : l.length = n) (hi : i < n)
  (hbi : w.cell? ⟨bi, 0, none⟩ = some (.int .i64 (i : Int))) (hbt : w.heap[bt]? = some (.cells (tr ⟨⟨some ⟨b1, o1, none⟩, n, cp⟩⟩) 24 (0, 0))) (hx : w.rangeAt b1 o1 (zaq Ene l))
  (h1 : bi < n₀) (h2 : bt < n₀) (h3 : b1 < n₀) (hn₀ : n₀ ≤ w.heap.size) :
  SeqStopsK F d Tryz.prog 95 #[.pointer (some ⟨bi, 0, none⟩), .pointer (some ⟨bt, 0, none⟩)] (fun x : Ln l i => #[Value.int .i64 (x.1 : Int)]) (Below n₀) (fun ys => ys.map Subtype.val = zfa l i) (fun pre => pre.map Subtype.val <+: zfa l i) (zfa l i).length w := by
 intro lo J Jx W hW _ _ hY hJ0
 have HL := Lib.hid hl
 have HM := Lib.hid hm
 have HI := Lib.hid hi
 have HY := Lib.hid hY
 have HJ0 := Lib.hid hJ0
 have g0 := hW.mono hn₀
 have HC : Hid (∀ W', Below n₀ W W' → W'.cell? ⟨bi, 0, none⟩ = some (.int .i64 (i : Int))) := fun W' g => ((g0.trans g).cell (p := ⟨bi, 0, none⟩) h1).trans hbi
 have HT : Hid (∀ W', Below n₀ W W' → W'.heap[bt]? = some (.cells (tr ⟨⟨some ⟨b1, o1, none⟩, n, cp⟩⟩) 24 (0, 0))) := fun W' g => ((g0.trans g).block _ h2).trans hbt
 have HR : Hid (∀ W', Below n₀ W W' → W'.rangeAt b1 o1 (zaq Ene l)) := fun W' g j v hv => ((g0.trans g).cell (p := ⟨b1, o1 + j, none⟩) h3).trans (hx j v hv)
 have z00 := HC.out W (Below.refl _ _)
 clear hl hm hi hY hJ0 hbi hbt hx h1 h2 h3 hn₀ hW g0
 refine callsIn_of_wp Tryz.func95 rfl hf ?_ hro
 simp only [Tryz.ntmps95, List.size_toArray, List.length_cons, List.length_nil, Nat.reduceAdd, Nat.reduceSub, Array.replicate_succ, Array.replicate_zero, List.push_toArray, List.append_toArray, List.nil_append, List.cons_append]
 gi_wp2
 gi_loopw [4] (fun v wr => ∃ (pre : List (Ln l i)) (m : Nat), m ≤ n ∧ v = .int .i64 ((m : Int) - 1) ∧ zfa l i = pre.map Subtype.val ++ (if m = 0 then [] else zfa l (m - 1)) ∧ Below n₀ W wr ∧ J pre wr) (fun v _ => (intOf v + 1).toNat)
 case atStart => exact ⟨[], i + 1, HI.out, by rw [show ((i + 1 : Nat) : Int) - 1 = (i : Int) by omega], by rw [if_neg (Nat.succ_ne_zero _), Nat.add_sub_cancel, List.map_nil, List.nil_append], Below.refl _ _, HJ0.out⟩
 case round =>
  obtain ⟨pre, m, hmn, rfl, he, hg, hj⟩ := hrel
  have HE := Lib.hid he
  have HG := Lib.hid hg
  have HJ := Lib.hid hj
  have HMN := Lib.hid hmn
  clear he hg hj hmn
  by_cases h0 : m = 0
  ·
   subst h0
   have HE' : Hid (pre.map Subtype.val = zfa l i) := by show _ = _; have := HE.out; rw [if_pos rfl, List.append_nil] at this; exact this.symm
   rw [show (((0 : Nat) : Int) - 1) = -1 from rfl]
   gi_wp2
   go_end0
   exact ⟨⟨_, rfl⟩, .inl ⟨pre, HE'.out, HJ.out⟩⟩
  ·
   obtain ⟨k, rfl⟩ : ∃ k, m = k + 1 := ⟨m - 1, by omega⟩
   rw [show (((k + 1 : Nat) : Int) - 1) = (k : Int) by omega]
   have HE' : Hid (zfa l i = pre.map Subtype.val ++ zfa l k) := HE.out.trans (by rw [if_neg h0, Nat.add_sub_cancel])
   have HK : Hid (k < n) := HMN.out
   have HC' : Hid (zfa l k = k :: (if k = 0 then [] else zfa l (up l k))) := zx5 HM.out (by have := HL.out; have := HK.out; omega)
   have HIN : Hid (k ∈ zfa l i) := by show k ∈ zfa l i; rw [HE'.out, HC'.out]; simp
   have t0 : ((k : Int) != -1) = true := by simp
   have u1 : (k : Int) < (n : Int) := by have := HK.out; omega
   have u2 : (0 : Int) ≤ (k : Int) := by omega
   obtain ⟨fn, tmps, assign, body, hy, hR⟩ := HY.out pre ⟨k, HIN.out⟩ wr HJ.out (by rw [HE'.out, List.length_append, HC'.out]; simp)
   have HRR := Lib.hid hR
   clear h0 HE HMN hR
   gi_wp2
   refine HRR.out.mono ?_
   rintro e W3 (⟨rfl, hJ3, hk3⟩ | ⟨rfl, hJx3⟩)
   ·
    have HG3 := Lib.hid (HG.out.trans hk3)
    have HJ3 := Lib.hid hJ3
    obtain ⟨z0, z1, zl⟩ := zaw (HT.out W3 HG3.out)
    dsimp only at z0
    rw [za7] at z0
    have y1 := zqo (HR.out W3 HG3.out) (i := k) (by have := HL.out; have := HK.out; omega)
    clear hJ3 hk3
    by_cases hk : k = 0
    ·
     subst hk
     rw [HM.out.first, Nat.zero_mul, Nat.add_zero] at y1
     gi_wp2
     go_roundw
     case rel => exact ⟨pre ++ [⟨0, HIN.out⟩], 0, Nat.zero_le _, rfl, HE'.out.trans (by rw [HC'.out]; simp), HG3.out, HJ3.out⟩
     case measure => simp [intOf]
    ·
     obtain ⟨hp, hu, _⟩ := HM.out.par (k := k) (by omega) (by have := HL.out; have := HK.out; omega)
     rw [hp] at y1
     have HU := Lib.hid hu
     have HK0 := Lib.hid hk
     clear hp hu hk
     gi_wp2
     go_roundw
     case rel => exact ⟨pre ++ [⟨k, HIN.out⟩], up l k + 1, by have := HU.out; have := HK.out; omega, by rw [show ((up l k + 1 : Nat) : Int) - 1 = (up l k : Int) by omega], HE'.out.trans (by rw [HC'.out, if_neg HK0.out, if_neg (Nat.succ_ne_zero _), Nat.add_sub_cancel, List.map_append, List.append_assoc]; rfl), HG3.out, HJ3.out⟩
     case measure => have := HU.out; simp [intOf]; omega
   ·
    have HJ3 := Lib.hid hJx3
    clear hJx3
    gi_wp2
    refine bodyPost_ret (results_none rfl _ _ _) rfl ?_
    exact ⟨⟨_, rfl⟩, .inr ⟨pre ++ [⟨k, HIN.out⟩], ⟨if k = 0 then [] else zfa l (up l k), (HE'.out.trans (by rw [HC'.out, List.map_append, List.append_assoc]; rfl)).symm⟩, HJ3.out⟩⟩
end
section
open Go.Shelf
attribute [local go_sem] Oper.semAt_some
theorem zzk (s : SlV) (l : List Nd) (i k : Int) (w : World) (h : SlE Ene w (sv s) l) (hk : isT l k = false) :
  Calls Tryz.prog 23 #[.agg (tr ⟨s⟩), .int .i64 i, .int .i64 k] w fun e w' => e = .returned (.bool false) ∧ Below w.heap.size w w' := by
 have HP := Lib.hid (fun W (g : Below w.heap.size w W) => zf3 s l k W (zad g h))
 rw [hk] at HP
 obtain ⟨W0, hW0⟩ : ∃ W0, W0 = ((w.alloc (.cells (tr ⟨s⟩) 24)).alloc (.cells #[.int .i64 i] 3)).alloc (.cells #[.bool false] 4) := ⟨_, rfl⟩
 obtain ⟨hB, h0, h1, h2, hz⟩ := zft w _ _ _ _ _ _ W0 hW0
 have HB := Lib.hid hB
 have H2 := Lib.hid h2
 have HW := Lib.hid hW0
 clear hW0 h hk hB h0 h1 h2 hz
 go_enter Tryz.func23, Tryz.ntmps23
 go_wp2_with fail
 rw [← HW.out]
 refine (HP.out W0 HB.out).mono ?_
 rintro e w1 ⟨rfl, g1⟩
 have G1 := Lib.hid (zac HB.out g1)
 have hc : w1.cell? ⟨w.heap.size + 1 + 1, 0, none⟩ = some (.bool false) ∧ w1.frozen? ⟨w.heap.size + 1 + 1, 0, none⟩ = false := zaj (zab g1 H2.out)
 obtain ⟨z0, z1⟩ := hc
 clear g1
 go_wp2_with fail
 have hs := World.cell?_setCell_same' w1 ⟨w.heap.size + 1 + 1, 0, none⟩ (.bool false) (by rw [z0]; rfl)
 exact bodyPost_ret (v := .bool false) (by simp [results, Tryz.results23, go_sem, hs]) rfl ⟨rfl, G1.out.setCell (p := ⟨w.heap.size + 1 + 1, 0, none⟩) (by simp; omega) _⟩
theorem zwg (s : SlV) (l : List Nd) (i : Int) (k : Nat) (w : World) (h : SlE Ene w (sv s) l) (hm : MayT l) (hk : k < l.length) :
  Calls Tryz.prog 23 #[.agg (tr ⟨s⟩), .int .i64 i, .int .i64 (k : Int)] w fun e w' => e = .returned (.bool (decide (0 ≤ i) && zao l i.toNat k)) ∧ Below w.heap.size w w' := by
 have HP := Lib.hid (fun W (g : Below w.heap.size w W) => zf3 s l k W (zad g h))
 rw [zhh hm hk] at HP
 have HL := Lib.hid (zcn h)
 obtain ⟨p, n, cp⟩ := s
 dsimp only at HL
 obtain ⟨b1, o1, rfl, q1, x1⟩ := zda h hm.pos
 obtain ⟨W0, hW0⟩ : ∃ W0, W0 = ((w.alloc (.cells (tr ⟨⟨some ⟨b1, o1, none⟩, n, cp⟩⟩) 24)).alloc (.cells #[.int .i64 i] 3)).alloc (.cells #[.bool false] 4) := ⟨_, rfl⟩
 obtain ⟨hB, h0, h1, h2, hz⟩ := zft w _ _ _ _ _ _ W0 hW0
 have HB := Lib.hid hB
 have H0 := Lib.hid h0
 have H1 := Lib.hid h1
 have H2 := Lib.hid h2
 have HZ := Lib.hid hz
 have HW := Lib.hid hW0
 have HX := Lib.hid x1
 have HQ := Lib.hid q1
 have HM := Lib.hid hm
 have HK := Lib.hid hk
 obtain ⟨r, hr⟩ : ∃ r, r = (decide (0 ≤ i) && zao l i.toNat k) := ⟨_, rfl⟩
 rw [← hr]
 have HR := Lib.hid hr
 clear hW0 h hk hB h0 h1 h2 hz hm x1 q1 hr
 refine callsIn_wide.1 (callsIn_of_wp_marks (n := 3) Tryz.func23 rfl trivial (wpIn_wide.2 ?_))
 simp only [Tryz.ntmps23, List.size_toArray, List.length_cons, List.length_nil, Nat.reduceAdd, Nat.reduceSub, Array.replicate_succ, Array.replicate_zero, List.push_toArray, List.append_toArray, List.nil_append, List.cons_append]
 go_wp2_with fail
 rw [← HW.out]
 refine (HP.out W0 HB.out).mono ?_
 rintro e w1 ⟨rfl, g1⟩
 have G1 := Lib.hid (zac HB.out g1)
 have G01 := Lib.hid g1
 have z1 := zag (zab g1 H0.out) (za9 _)
 clear g1
 go_wp2_with fail
 refine (zwj _ _ _).mono ?_
 rintro e w2 ⟨rfl, hw2⟩
 obtain ⟨hB2, hT2, hC2, hz2⟩ := zdb w1 _ _ _ _ w2 hw2
 have HB2 := Lib.hid hB2
 have HT2 := Lib.hid hT2
 have HC2 := Lib.hid hC2
 have HZ2 := Lib.hid hz2
 clear hw2 hB2 hT2 hC2 hz2 z1
 go_wp2_with fail
 refine (wpIn_wide (n := 3)).1 ?_
 have hs1 : w.heap.size + 3 ≤ w1.heap.size := by have := G01.out.size; have := HZ.out; omega
 have HS1 := Lib.hid hs1
 clear hs1
 refine wpIn_rangeFunc_ownF (w0 := w2) rfl (by omega) (gf := 95) (lb := #[.pointer (some ⟨w1.heap.size + 1, 0, none⟩), .pointer (some ⟨w1.heap.size, 0, none⟩)]) rfl trivial (zbe Tryz.func95 (by kernel_rfl) (by kernel_rfl))
  (zmz Fence.wide 2 trivial rfl (by omega) (w1.heap.size + 1) w1.heap.size b1 o1 n cp w2.heap.size l k w2 HM.out HL.out (by have := HL.out; have := HK.out; omega)
   (zaj HC2.out).1 HT2.out (zfu (zac G1.out HB2.out) HX.out) (by have := HZ2.out; omega) (by have := HZ2.out; omega) (by have := HQ.out; have := HS1.out; have := HZ2.out; omega) (Nat.le_refl _))
  belowK_t (belowK_b (Nat.le_refl _)) (Below.refl _ _) (fun _ => rfl)
  (fun pre W => (∀ y ∈ pre, ((y.1 : Nat) : Int) ≠ i) ∧ Below w2.heap.size w2 W)
  (fun c pre W => (((c = .ret ∧ ∃ y ∈ pre, ((y.1 : Nat) : Int) = i) ∧ W.cell? ⟨w.heap.size + 1 + 1, 0, none⟩ = some (.bool true)) ∧ Below w.heap.size w W))
  (z33 _ (Nat.le_refl _)) (fun c => z34 (w := w) (B := w2.heap.size) (fun pre : List (Ln l k) => c = .ret ∧ ∃ y ∈ pre, ((y.1 : Nat) : Int) = i) _ (fun _ => .bool true) (by have := HZ2.out; have := HS1.out; omega))
  ⟨fun _ h => absurd h List.not_mem_nil, Below.refl _ _⟩ ?a1 ?assign ?body ?done ?stop
 case assign =>
  intro lo x W K hK
  gi_wp2
  exact hK
 case body =>
  rintro lo pre x W ⟨hp, hB⟩ hlen
  have HP := Lib.hid hp
  have HBW := Lib.hid hB
  have c1 := (zaj (zab (zac G01.out (zac HB2.out hB)) H1.out)).1
  obtain ⟨c2, c3⟩ := zaj (zab (zac G01.out (zac HB2.out hB)) H2.out)
  have HC2' : Hid (W.cell? ⟨w.heap.size + 1 + 1, 0, none⟩ = some (.bool false) ∧ W.frozen? ⟨w.heap.size + 1 + 1, 0, none⟩ = false) := ⟨c2, c3⟩
  have HBw : Hid (Below w.heap.size w W) := zac G1.out (zac HB2.out hB)
  clear hp hB c2 c3 hlen
  obtain ⟨c2, c3⟩ := HC2'.out
  by_cases he : ((x.1 : Nat) : Int) = i
  ·
   have t1 : (((x.1 : Nat) : Int) == i) = true := by simpa using he
   have HE := Lib.hid he
   clear he
   gi_wp2
   exact ⟨KeepsOthers.setCell _ _ _, ⟨⟨rfl, x, by simp, HE.out⟩, World.cell?_setCell_same' _ _ _ (by rw [HC2'.out.1]; rfl)⟩, HBw.out.setCell (p := ⟨w.heap.size + 1 + 1, 0, none⟩) (by simp; omega) _⟩
  ·
   have t1 : (((x.1 : Nat) : Int) == i) = false := by simpa using he
   have HE := Lib.hid he
   clear he
   gi_wp2
   exact ⟨KeepsOthers.refl _, Below.refl _ _, fun y hy => by
    rcases List.mem_append.1 hy with h | h
    ·
     exact HP.out y h
    ·
     rw [List.mem_singleton] at h; subst h; exact HE.out, HBW.out⟩
 case done =>
  rintro D ys W hD hys ⟨hp, hB⟩ hK
  have hX : r = false := by
   rw [HR.out, Bool.and_eq_false_iff, ← Bool.not_eq_true]
   by_cases h0 : 0 ≤ i
   ·
    right
    rw [← Bool.not_eq_true]
    intro ha
    have hin := (zja HM.out i.toNat k HK.out).2 ha
    rw [← hys] at hin
    obtain ⟨y, hy, e⟩ := List.mem_map.1 hin
    exact hp y hy (by omega)
   ·
    left; simpa using h0
  have HX' := Lib.hid hX
  have HKD := Lib.hid hK
  have HBW := Lib.hid hB
  have hc : W.cell? ⟨w.heap.size + 1 + 1, 0, none⟩ = some (.bool false) ∧ W.frozen? ⟨w.heap.size + 1 + 1, 0, none⟩ = false := zaj (zab (zac G01.out (zac HB2.out hB)) H2.out)
  have HC := Lib.hid hc
  obtain ⟨c2, c3⟩ := hc
  have HBw : Hid (Below w.heap.size w W) := zac G1.out (zac HB2.out hB)
  clear hX hp hB hK hys
  go_wp2_with fail
  have hK' := (KeepsOthers.setCell W ⟨w.heap.size + 1 + 1, 0, none⟩ (.bool false)).same D _ HKD.out rfl
  have hs := zku hK' (World.cell?_setCell_same' W ⟨w.heap.size + 1 + 1, 0, none⟩ (.bool false) (by rw [HC.out.1]; rfl))
  exact zhj (v := .bool false) hK' ⟨by simp [results, Tryz.results23, go_sem, hs], by rw [HX'.out], zdc hK' (HBw.out.setCell (p := ⟨w.heap.size + 1 + 1, 0, none⟩) (by simp; omega) _) (by have := HZ2.out; have := HS1.out; omega)⟩
 case stop =>
  rintro D c pre W hD hpre ⟨⟨⟨rfl, y, hy, he⟩, hc⟩, hB⟩ hK
  have hX : r = true := by
   rw [HR.out, Bool.and_eq_true, decide_eq_true_iff]
   refine ⟨by omega, (zja HM.out i.toNat k HK.out).1 ?_⟩
   rw [show i.toNat = y.1 by omega]
   exact hpre.subset (List.mem_map_of_mem hy)
  have HX' := Lib.hid hX
  have HBW := Lib.hid hB
  have HKD := Lib.hid hK
  have hs := zku hK hc
  have HD := Lib.hid hD
  clear hX hB hy he hpre
  gi_wp2
  exact zhj (v := .bool true) HKD.out ⟨by simp [results, Tryz.results23, go_sem, hs], by rw [HX'.out], zdc HKD.out HBW.out (by have := HZ2.out; have := HS1.out; have := HD.out; omega)⟩
theorem zf2 (s : SlV) (l : List Nd) (i k : Int) (w : World) (h : SlE Ene w (sv s) l) :
  Calls Tryz.prog 23 #[.agg (tr ⟨s⟩), .int .i64 i, .int .i64 k] w fun e w' => e = .returned (.bool (zb0 l i k)) ∧ Below w.heap.size w w' := by
 by_cases hk : isT l k = true
 ·
  obtain ⟨hm, hk0, hk1⟩ := zdi.1 hk
  obtain ⟨k', rfl⟩ : ∃ k' : Nat, k = k' := ⟨k.toNat, by omega⟩
  have e : zb0 l i (k' : Int) = (decide (0 ≤ i) && zao l i.toNat k') := by
   unfold zb0
   rw [hk, Int.toNat_natCast, Bool.and_true]
   by_cases h0 : 0 ≤ i
   ·
    rw [decide_eq_true h0, Bool.true_and]
    by_cases ha : zao l i.toNat k' = true
    ·
     have := ze7 hm i.toNat k' (by omega) ha
     rw [ha, Bool.and_true]
     exact zdi.2 ⟨hm, h0, by omega⟩
    ·
     rw [Bool.not_eq_true] at ha
     rw [ha, Bool.and_false]
   ·
    have : isT l i = false := by
     rw [← Bool.not_eq_true, zdi]
     exact fun hh => h0 hh.2.1
    rw [this, decide_eq_false h0]
  rw [e]
  exact zwg s l i k' w h hm (by omega)
 ·
  have hk' : isT l k = false := by simpa using hk
  have e : zb0 l i k = false := by unfold zb0; rw [hk', Bool.and_false, Bool.false_and]
  rw [e]
  exact zzk s l i k w h hk'
end
theorem zeo : ∀ args w, (callFunc 21 args).run Tryz.prog w = .ok (.enter 21 args) w := zbe Tryz.func21 (by kernel_rfl) (by kernel_rfl)
theorem zid : ∀ args w, (callFunc 23 args).run Tryz.prog w = .ok (.enter 23 args) w := zbe Tryz.func23 (by kernel_rfl) (by kernel_rfl)
theorem zyz (x : Sn) (s : Sg) (w : World) (h : LaidS w x s) :
  Calls Tryz.prog 15 #[.agg (sn x)] w fun e w' => e = .returned (.bool (mayN s)) ∧ Below w.heap.size w w' := by
 obtain ⟨W0, hW0⟩ : ∃ W0, W0 = w.alloc (.cells (sn x) 40) := ⟨_, rfl⟩
 have A : Hid (Sw w W0 w.heap.size x s) := by rw [hW0]; exact ykf h
 have HW := Lib.hid hW0
 have HFd := Lib.hid (fun r W hh => zdh x.t.n s.t r W hh)
 have HAb := Lib.hid (fun i k W hh => zf2 x.t.n s.t i k W hh)
 obtain ⟨f, hf⟩ : ∃ f, f = zal s.t s.fin.root := ⟨_, rfl⟩
 obtain ⟨i, hi⟩ : ∃ i, i = zal s.t s.head := ⟨_, rfl⟩
 obtain ⟨k, hk⟩ : ∃ k, k = zal s.t s.just.root := ⟨_, rfl⟩
 have H1 := Lib.hid (HFd.out s.fin.root)
 have H2 := Lib.hid (HFd.out s.head)
 have H3 := Lib.hid (HFd.out s.just.root)
 have H4 := Lib.hid (HAb.out f i)
 have H5 := Lib.hid (HAb.out f k)
 rw [← hf] at H1
 rw [← hi] at H2
 rw [← hk] at H3
 obtain ⟨a, ha⟩ : ∃ a, a = zb0 s.t f i := ⟨_, rfl⟩
 obtain ⟨b, hb⟩ : ∃ b, b = zb0 s.t f k := ⟨_, rfl⟩
 rw [← ha] at H4
 rw [← hb] at H5
 obtain ⟨r, hr⟩ : ∃ r, r = mayN s := ⟨_, rfl⟩
 have HF : Hid (r = (a && b)) := by show _ = _; rw [hr, ha, hb, hf, hi, hk]; rfl
 rw [← hr]
 clear hW0 h HFd HAb hf hi hk ha hb hr
 go_enter Tryz.func15, Tryz.ntmps15
 go_upto_region 1 with fail
 rw [← HW.out]
 have zT := A.out.zT
 have zr := A.out.zr
 go_wp2_with fail
 refine (H1.out _ A.out.l.t).mono ?_
 rintro e w1 ⟨rfl, gg⟩
 replace A := Lib.hid (A.out.keep gg)
 clear zT zr gg H1
 have zT := A.out.zT
 have zh := A.out.zh
 have zJ := A.out.zJ
 go_upto_region 2 with fail
 have L0 := fun p : Wd w1.drew => za8 zT (by decide) p
 have L1 := fun p : Wd w1.drew => za8 zh (by decide) p
 have L2 := fun p : Wd w1.drew => za8 zJ (by decide) p
 clear zT zh zJ
 refine zan [7, 8, 9, 18, 19] (by kernel_rfl) (by kernel_rfl) (by kernel_rfl) ?_
 repeat (first | (refine zae rfl rfl _ zaf ?_; (first | go_big_quiet_step (fail) | quiet_step (fail)); refine wpQuiet_nil ?_) | refine zah rfl ?_)
 refine zau rfl rfl rfl zeo #[.agg (tr ⟨x.t.n⟩), .agg (rc s.head)] rfl ?_
 refine (H2.out _ (zad (zak (Below.refl _ _) 1) A.out.l.t)).mono ?_
 rintro e u ⟨rfl, g⟩
 refine ⟨_, rfl, g, ?_⟩
 simp only [Act.put, List.setIfInBounds_toArray, List.set_cons_zero, List.set_cons_succ]
 have GB : Hid (Below w1.heap.size w1 u) := zac (zak (Below.refl _ _) 1) g
 clear g
 repeat (first | (refine zae rfl rfl _ zaf ?_; (first | go_big_quiet_step (fail) | quiet_step (fail)); refine wpQuiet_nil ?_) | refine zah rfl ?_)
 refine zau rfl rfl rfl zid #[.agg (tr ⟨x.t.n⟩), .int .i64 f, .int .i64 i] rfl ?_
 refine (H4.out _ (zad GB.out A.out.l.t)).mono ?_
 rintro e u ⟨rfl, g⟩
 refine ⟨_, rfl, g, ?_⟩
 simp only [Act.put, List.setIfInBounds_toArray, List.set_cons_zero, List.set_cons_succ]
 replace GB : Hid (Below w1.heap.size w1 u) := zac GB.out g
 clear g
 cases a
 ·
  repeat (first | (refine zae rfl rfl _ zaf ?_; (first | go_big_quiet_step (fail) | quiet_step (fail)); refine wpQuiet_nil ?_) | refine zah rfl ?_)
  refine zcd rfl rfl (.bool false) _ rfl (Below.refl _ _) ?_
  simp only [Act.put, List.setIfInBounds_toArray, List.set_cons_zero, List.set_cons_succ]
  repeat (first | (refine zae rfl rfl _ zaf ?_; (first | go_big_quiet_step (fail) | quiet_step (fail)); refine wpQuiet_nil ?_) | refine zah rfl ?_)
  refine zbd ?_
  clear L0 L1 L2
  replace A := Lib.hid (A.out.keep GB.out)
  clear GB
  obtain ⟨w2, rfl⟩ : ∃ W : World, W = u := ⟨_, rfl⟩
  go_wp2_with fail
  go_ret
  exact ⟨by rw [HF.out]; first | done | rfl | simp, A.out.g⟩
 ·
  repeat (first | (refine zae rfl rfl _ zaf ?_; (first | go_big_quiet_step (fail) | quiet_step (fail)); refine wpQuiet_nil ?_) | refine zah rfl ?_)
  refine zcd rfl rfl (.bool true) _ rfl (Below.refl _ _) ?_
  simp only [Act.put, List.setIfInBounds_toArray, List.set_cons_zero, List.set_cons_succ]
  repeat (first | (refine zae rfl rfl _ zaf ?_; (first | go_big_quiet_step (fail) | quiet_step (fail)); refine wpQuiet_nil ?_) | refine zah rfl ?_)
  refine zau rfl rfl rfl zeo #[.agg (tr ⟨x.t.n⟩), .agg (rc s.just.root)] rfl ?_
  refine (H3.out _ (zad GB.out A.out.l.t)).mono ?_
  rintro e u ⟨rfl, g⟩
  refine ⟨_, rfl, g, ?_⟩
  simp only [Act.put, List.setIfInBounds_toArray, List.set_cons_zero, List.set_cons_succ]
  replace GB : Hid (Below w1.heap.size w1 u) := zac GB.out g
  clear g
  repeat (first | (refine zae rfl rfl _ zaf ?_; (first | go_big_quiet_step (fail) | quiet_step (fail)); refine wpQuiet_nil ?_) | refine zah rfl ?_)
  refine zau rfl rfl rfl zid #[.agg (tr ⟨x.t.n⟩), .int .i64 f, .int .i64 k] rfl ?_
  refine (H5.out _ (zad GB.out A.out.l.t)).mono ?_
  rintro e u ⟨rfl, g⟩
  refine ⟨_, rfl, g, ?_⟩
  simp only [Act.put, List.setIfInBounds_toArray, List.set_cons_zero, List.set_cons_succ]
  replace GB : Hid (Below w1.heap.size w1 u) := zac GB.out g
  clear g
  repeat (first | (refine zae rfl rfl _ zaf ?_; (first | go_big_quiet_step (fail) | quiet_step (fail)); refine wpQuiet_nil ?_) | refine zah rfl ?_)
  refine zbd ?_
  clear L0 L1 L2
  replace A := Lib.hid (A.out.keep GB.out)
  clear GB
  obtain ⟨w2, rfl⟩ : ∃ W : World, W = u := ⟨_, rfl⟩
  go_wp2_with fail
  go_ret
  exact ⟨by rw [HF.out]; first | done | rfl | simp, A.out.g⟩
end Go.Proofs.YtkalofboioffiaaGreat
