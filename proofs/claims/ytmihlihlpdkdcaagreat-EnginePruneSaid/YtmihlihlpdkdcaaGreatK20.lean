import Derived.Test.YtmihlihlpdkdcaaGreatK19
import Derived.Test.YtmihlihlpdkdcaaGreatQ06
import Derived.Test.YtmihlihlpdkdcaaGreatK12
import Derived.Test.YtmihlihlpdkdcaaGreatK11
import Derived.Deep.Cut
import Derived.Deep.CutRange
import Derived.Deep.RegionLaw
namespace Go.Proofs.YtmihlihlpdkdcaaGreat
open Go.RowKit
set_option maxRecDepth 200000
set_option maxHeartbeats 64000000
section
open Go.Maps
theorem z0k (w : World) : (zeroValue 3).run Tryz.prog w = .ok (.int .i64 0) w := by kernel_rfl
theorem z5i {W : World} {b n : Nat} {D : DataW Unit} (h : W.ownsMap Tryz.prog 23 (plainElem Tryz.prog 3) b n D) {r : Rt} {c : Int} (hc : D.atKey (rk r) (iL 0) = .lit (.int .i64 c)) :
  (Instr.lookup 89 (.map (some b)) (.agg (rc r)) true).run Tryz.prog W = .ok (.tuple #[.int .i64 c, .bool (Maps.has D (rk r))]) W := by
 obtain ⟨v, ps, hrun, hv⟩ := h.look_ok keyed_root Tryz.underlying89 (z0k W) (plainElem_int Tryz.underlying3 (by decide)) (zhf r)
 obtain ⟨a, rfl, hz, _⟩ := plainElem_int_inv Tryz.underlying3 hv
 have e : D.atKey (rk r) (.lit (.int .i64 0)) = .lit (.int .i64 a) := congrArg Prod.fst hz
 have hc' : D.atKey (rk r) (.lit (.int .i64 0)) = .lit (.int .i64 c) := hc
 rw [e] at hc'
 injection hc' with h1
 injection h1 with _ h2
 rw [← h2]
 exact hrun
def putR (l : List Nd) (r : Rt) : Int := if 0 ≤ zay l r then zay l r else 0
theorem zw7 {l : List Nd} (h : MayT l) (r : Rt) : (plD l l.length).atKey (rk r) (iL 0) = .lit (.int .i64 (putR l r)) ∧ Maps.has (plD l l.length) (rk r) = decide (0 ≤ zay l r) := by
 obtain ⟨h1, h2⟩ := yjr h r
 refine ⟨?_, h1⟩
 unfold putR
 by_cases hf : 0 ≤ zay l r
 ·
  rw [if_pos hf]; exact h2 hf
 ·
  rw [if_neg hf]
  exact atKey_of_not_has (by rw [h1]; exact decide_eq_false hf) _
theorem zfk (s : SlV) (l : List Nd) (r : Rt) (w : World) (h : SlE Ene w (sv s) l) :
  Calls Tryz.prog 15 #[.agg (tr ⟨s⟩), .agg (rc r)] w fun e w' => e = .returned (.int .i64 (zay l r)) ∧ Below w.heap.size w w' := by
 have HM := Lib.hid (fun W (g : Below w.heap.size w W) => ziy s l W (zac g h))
 have HS := Lib.hid h
 obtain ⟨a, ha⟩ : ∃ a, a = decide (MayT l) := ⟨_, rfl⟩
 rw [← ha] at HM
 have HA := Lib.hid ha
 obtain ⟨W0, hW0⟩ : ∃ W0, W0 = (w.alloc (.cells (tr ⟨s⟩) 28)).alloc (.cells (rc r) 23) := ⟨_, rfl⟩
 obtain ⟨hB, h0, h1, hz⟩ := zd0 w _ _ _ _ W0 hW0
 have HB := Lib.hid hB
 have H0 := Lib.hid h0
 have H1 := Lib.hid h1
 have HW := Lib.hid hW0
 obtain ⟨x, hx⟩ : ∃ x, x = zay l r := ⟨_, rfl⟩
 rw [← hx]
 have HX := Lib.hid hx
 clear h hW0 hB h0 h1 hz ha hx
 go_enter Tryz.func15, Tryz.ntmps15
 go_wp2_with fail
 rw [← HW.out]
 refine (HM.out W0 HB.out).mono ?_
 rintro e w1 ⟨rfl, g1⟩
 have G1 := Lib.hid (zad HB.out g1)
 have N0 := Lib.hid (zab g1 H0.out)
 have N1 := Lib.hid (zab g1 H1.out)
 clear g1
 cases a
 ·
  have hX : Hid (x = -1) := by show x = -1; rw [HX.out]; exact yle (fun hm => by have := HA.out; rw [decide_eq_true hm] at this; cases this) r
  go_wp2_with fail
  go_ret
  exact ⟨by rw [hX.out]; first | done | rfl, G1.out⟩
 ·
  have HMl := Lib.hid (of_decide_eq_true HA.out.symm)
  have hx := HX.out
  obtain ⟨c, hc⟩ : ∃ c, c = putR l r := ⟨_, rfl⟩
  obtain ⟨q, hq⟩ : ∃ q, q = decide (0 ≤ x) := ⟨_, rfl⟩
  have hlk := zw7 HMl.out r
  rw [← hc, ← hx, ← hq] at hlk
  have HLK := Lib.hid hlk
  have HXF : Hid (q = false → -1 = x) := fun e => by
   have := yd9 (l := l) r
   rw [e] at hq
   have := of_decide_eq_false hq.symm
   omega
  have HXT : Hid (q = true → c = x) := fun e => by
   rw [e] at hq
   have := of_decide_eq_true hq.symm
   rw [hc]; unfold putR
   rw [if_pos (by omega)]; exact hx.symm
  clear hx hc hq hlk
  go_wp2_with fail
  have La := fun q : Wd w1.drew => yvb N0.out q
  have Lb := fun q : Wd w1.drew => zb8 (zaf N1.out (zar r)) (by decide) q
  refine za4 [1] (by kernel_rfl) (by kernel_rfl) (by kernel_rfl) ?_
  repeat (refine zae rfl rfl _ zag ?_; (first | go_big_quiet_step (fail) | quiet_step (fail)); refine wpQuiet_nil ?_)
  refine zau rfl rfl rfl zmn #[.agg (tr ⟨s⟩)] rfl ?_
  refine (yav s l _ (zac (zad G1.out (zap (Below.refl _ _) 1)) HS.out) (by have := HMl.out.le; omega)).mono ?_
  rintro e u ⟨b, rfl, ho, g⟩
  refine ⟨_, rfl, g, ?_⟩
  simp only [Act.put, List.setIfInBounds_toArray, List.set_cons_zero, List.set_cons_succ]
  have Lc := fun q : Wd u => z5i (zb6 q.h ho) HLK.out.1
  rw [HLK.out.2] at Lc
  have G := Lib.hid (zad (zad G1.out (zap (Below.refl _ _) 1)) g)
  clear g ho
  refine zae rfl rfl _ zag ?_
  (first | go_big_quiet_step (fail) | quiet_step (fail))
  refine wpQuiet_nil ?_
  refine zae rfl rfl u (yhp 1 u (by simp) (by kernel_rfl)) ?_
  (first | go_big_quiet_step (fail) | quiet_step (fail))
  refine wpQuiet_nil ?_
  repeat (refine zae rfl rfl _ zag ?_; (first | go_big_quiet_step (fail) | quiet_step (fail)); refine wpQuiet_nil ?_)
  refine zbx ?_
  cases q
  ·
   have hX : Hid (-1 = x) := HXF.out rfl
   go_wp2_with fail
   go_ret
   exact ⟨by rw [← hX.out]; first | done | rfl, G.out⟩
  ·
   have hX : Hid (c = x) := HXT.out rfl
   go_wp2_with fail
   go_ret
   exact ⟨by rw [← hX.out]; first | done | rfl, G.out⟩
theorem zxp : ∀ args w, (callFunc 15 args).run Tryz.prog w = .ok (.enter 15 args) w := zbb Tryz.func15 (by kernel_rfl) (by kernel_rfl)
end
theorem zgy (s : SlV) (l : List Nd) (i : Int) (w : World) (h : SlE Ene w (sv s) l) :
  Calls Tryz.prog 60 #[.agg (tr ⟨s⟩), .int .i64 i] w fun e w' => e = .returned (.bool (isT l i)) ∧ Below w.heap.size w w' := by
 have HM := Lib.hid (fun W (g : Below w.heap.size w W) => ziy s l W (zac g h))
 have hl := zdm h
 obtain ⟨p, n, cp⟩ := s
 dsimp only at hl
 obtain ⟨r, hr⟩ : ∃ r, r = decide (MayT l) := ⟨_, rfl⟩
 rw [← hr] at HM
 obtain ⟨x, hx⟩ : ∃ x, x = isT l i := ⟨_, rfl⟩
 rw [← hx]
 have HX : Hid (x = (r && (decide (0 ≤ i) && decide (i < (n : Int))))) := by rw [hx, hr]; unfold isT; rw [hl]; rfl
 obtain ⟨W0, hW0⟩ : ∃ W0, W0 = w.alloc (.cells (tr ⟨⟨p, n, cp⟩⟩) 28) := ⟨_, rfl⟩
 have HB : Hid (Below w.heap.size w W0) := by rw [hW0]; exact below1
 have M0 : Hid (W0.heap[w.heap.size]? = some (.cells (tr ⟨⟨p, n, cp⟩⟩) 28 (0, 0))) := by rw [hW0]; exact heap_alloc_last w _
 have HW := Lib.hid hW0
 clear hW0 h hl hr hx
 go_enter Tryz.func60, Tryz.ntmps60
 go_wp2_with fail
 rw [← HW.out]
 refine (HM.out W0 HB.out).mono ?_
 rintro e w1 ⟨rfl, g1⟩
 have G1 := Lib.hid (zad HB.out g1)
 obtain ⟨z0, z1, zl⟩ := za2 (zab g1 M0.out)
 dsimp only at z0
 rw [zat] at z0
 cases r
 ·
  go_wp2_with fail
  go_ret
  exact ⟨by rw [HX.out]; rfl, G1.out⟩
 ·
  by_cases h0 : 0 ≤ i
  ·
   have t0 : decide (0 ≤ i) = true := decide_eq_true h0
   by_cases h1 : i < (n : Int)
   ·
    have t1 : decide (i < (n : Int)) = true := decide_eq_true h1
    have hX : Hid (x = true) := by show x = true; rw [HX.out, t0, t1]; rfl
    clear h0 h1
    go_wp2_with fail
    go_ret
    exact ⟨by rw [hX.out]; first | done | rfl, G1.out⟩
   ·
    have t1 : decide (i < (n : Int)) = false := decide_eq_false h1
    have hX : Hid (x = false) := by show x = false; rw [HX.out, t0, t1]; rfl
    clear h0 h1
    go_wp2_with fail
    go_ret
    exact ⟨by rw [hX.out]; first | done | rfl, G1.out⟩
  ·
   have t0 : decide (0 ≤ i) = false := decide_eq_false h0
   have hX : Hid (x = false) := by show x = false; rw [HX.out, t0]; rfl
   clear h0
   go_wp2_with fail
   go_ret
   exact ⟨by rw [hX.out]; first | done | rfl, G1.out⟩
def zuf (l : List Nd) : Nat → Nat → List Nat
 | 0, i => [i]
 | f + 1, i => if i = 0 then [i] else i :: zuf l f (up l i)
def zgh (l : List Nd) (i : Nat) : List Nat := zuf l i i
section
variable {l : List Nd}
theorem ybn (h : MayT l) : ∀ (k : Nat), k < l.length → ∀ f, k ≤ f → zuf l f k = zuf l k k := by
 intro k
 induction k using Nat.strongRecOn with
 | _ k ih =>
  intro hk f hf
  by_cases h0 : k = 0
  ·
   subst h0
   cases f with
   | zero => rfl
   | succ f => simp [zuf]
  ·
   obtain ⟨_, hu, _⟩ := h.par (Nat.pos_of_ne_zero h0) hk
   obtain ⟨f', rfl⟩ : ∃ f', f = f' + 1 := ⟨f - 1, by omega⟩
   obtain ⟨k', hk'⟩ : ∃ k', k = k' + 1 := ⟨k - 1, by omega⟩
   have e1 := ih (up l k) hu (by omega) f' (by omega)
   have e2 := ih (up l k) hu (by omega) k' (by omega)
   rw [show zuf l k k = zuf l (k' + 1) k by rw [← hk']]
   simp only [zuf]
   rw [e1, e2]
theorem yda : zgh l 0 = [0] := rfl
theorem ygu (h : MayT l) {k : Nat} (h0 : 0 < k) (hk : k < l.length) : zgh l k = k :: zgh l (up l k) := by
 obtain ⟨_, hu, _⟩ := h.par h0 hk
 obtain ⟨k', rfl⟩ : ∃ k', k = k' + 1 := ⟨k - 1, by omega⟩
 unfold zgh
 rw [show zuf l (k' + 1) (k' + 1) = if k' + 1 = 0 then [k' + 1] else (k' + 1) :: zuf l k' (up l (k' + 1)) from rfl]
 rw [if_neg (Nat.succ_ne_zero _), ybn h (up l (k' + 1)) (by omega) k' (by omega)]
theorem z13 (h : MayT l) {k : Nat} (hk : k < l.length) : zgh l k = k :: (if k = 0 then [] else zgh l (up l k)) := by
 by_cases h0 : k = 0
 ·
  subst h0; rfl
 ·
  rw [if_neg h0, ygu h (Nat.pos_of_ne_zero h0) hk]
theorem zkx (h : MayT l) (i : Nat) : ∀ k, k < l.length → (i ∈ zgh l k ↔ za5 l i k = true) := by
 intro k
 induction k using Nat.strongRecOn with
 | _ k ih =>
  intro hk
  by_cases h0 : k = 0
  ·
   subst h0
   rw [yda, zb4, List.mem_singleton, decide_eq_true_iff]
  ·
   obtain ⟨_, hu, _⟩ := h.par (Nat.pos_of_ne_zero h0) hk
   rw [ygu h (Nat.pos_of_ne_zero h0) hk, zb7 h i (Nat.pos_of_ne_zero h0) hk, List.mem_cons, ih _ hu (by omega)]
theorem ys5 (h : MayT l) {k : Nat} (hk : k < l.length) {i : Nat} (hi : i ∈ zgh l k) : i < l.length := by
 have := zho h i k hk ((zkx h i k hk).1 hi)
 omega
theorem ysi (h : MayT l) (s : Nat) : ∀ k, k < l.length → ∀ (q r : List Nat) (x : Nat), zgh l k = q ++ x :: r → (∀ y ∈ q, s < sl l y) → sl l x ≤ s → atT l k s = x := by
 intro k
 induction k using Nat.strongRecOn with
 | _ k ih =>
  intro hk q r x e hq hx
  rw [z13 h hk] at e
  cases q with
  | nil =>
   rw [List.nil_append] at e
   injection e with e1 _
   subst e1
   exact ygr h hk hx
  | cons y q =>
   rw [List.cons_append] at e
   injection e with e1 e2
   subst e1
   have h1 := hq k List.mem_cons_self
   by_cases h0 : k = 0
   ·
    rw [if_pos h0] at e2
    cases q <;> cases e2
   ·
    rw [if_neg h0] at e2
    obtain ⟨_, hu, _⟩ := h.par (Nat.pos_of_ne_zero h0) hk
    rw [z8i h s (Nat.pos_of_ne_zero h0) hk, if_neg (by omega)]
    exact ih _ hu (by omega) q r x e2 (fun z hz => hq z (List.mem_cons_of_mem _ hz)) hx
theorem yma (h : MayT l) (s : Nat) {k : Nat} (hk : k < l.length) (ha : ∀ y ∈ zgh l k, s < sl l y) : atT l k s = -1 := by
 rcases yff h s k hk with ⟨e, _⟩ | ⟨n, _, hn, hab, hs, _⟩
 ·
  exact e
 ·
  have := ha n ((zkx h n k hk).2 hab)
  omega
end
section
open Go.Shelf
attribute [local go_sem] Oper.semAt_some
theorem zy0 (t : Tr) (i : Int) (w : World) :
  Calls Tryz.prog 61 #[.agg (tr t), .int .i64 i] w fun e w' => e = .returned (.func (.func 90) #[] #[.pointer (some ⟨w.heap.size + 1, 0, none⟩), .pointer (some ⟨w.heap.size, 0, none⟩)]) ∧ w' = (w.alloc (.cells (tr t) 28)).alloc (.cells #[.int .i64 i] 3) := by
 go_enter Tryz.func61, Tryz.ntmps61
 go_wp2_with fail
 go_ret
 exact ⟨rfl, rfl⟩
abbrev Ln (l : List Nd) (i : Nat) := { x : Nat // x ∈ zgh l i }
theorem zpa (F : Fence) (d : Nat) (hf : F.fn 90) (hro : F.round = none) (hd : 1 ≤ d) (bi bt b1 o1 n cp n₀ : Nat) (l : List Nd) (i : Nat) (w : World) (hm : MayT l) (hl : l.length = n) (hi : i < n)
  (hbi : w.cell? ⟨bi, 0, none⟩ = some (.int .i64 (i : Int))) (hbt : w.heap[bt]? = some (.cells (tr ⟨⟨some ⟨b1, o1, none⟩, n, cp⟩⟩) 28 (0, 0))) (hx : w.rangeAt b1 o1 (zan Ene l))
  (h1 : bi < n₀) (h2 : bt < n₀) (h3 : b1 < n₀) (hn₀ : n₀ ≤ w.heap.size) :
  SeqStopsK F d Tryz.prog 90 #[.pointer (some ⟨bi, 0, none⟩), .pointer (some ⟨bt, 0, none⟩)] (fun x : Ln l i => #[Value.int .i64 (x.1 : Int)]) (Below n₀) (fun ys => ys.map Subtype.val = zgh l i) (fun pre => pre.map Subtype.val <+: zgh l i) (zgh l i).length w := by
 intro lo J Jx W hW _ _ hY hJ0
 have HL := Lib.hid hl
 have HM := Lib.hid hm
 have HI := Lib.hid hi
 have HY := Lib.hid hY
 have HJ0 := Lib.hid hJ0
 have g0 := hW.mono hn₀
 have HC : Hid (∀ W', Below n₀ W W' → W'.cell? ⟨bi, 0, none⟩ = some (.int .i64 (i : Int))) := fun W' g => ((g0.trans g).cell (p := ⟨bi, 0, none⟩) h1).trans hbi
 have HT : Hid (∀ W', Below n₀ W W' → W'.heap[bt]? = some (.cells (tr ⟨⟨some ⟨b1, o1, none⟩, n, cp⟩⟩) 28 (0, 0))) := fun W' g => ((g0.trans g).block _ h2).trans hbt
 have HR : Hid (∀ W', Below n₀ W W' → W'.rangeAt b1 o1 (zan Ene l)) := fun W' g j v hv => ((g0.trans g).cell (p := ⟨b1, o1 + j, none⟩) h3).trans (hx j v hv)
 have z00 := HC.out W (Below.refl _ _)
 clear hl hm hi hY hJ0 hbi hbt hx h1 h2 h3 hn₀ hW g0
 refine callsIn_of_wp Tryz.func90 rfl hf ?_ hro
 simp only [Tryz.ntmps90, List.size_toArray, List.length_cons, List.length_nil, Nat.reduceAdd, Nat.reduceSub, Array.replicate_succ, Array.replicate_zero, List.push_toArray, List.append_toArray, List.nil_append, List.cons_append]
 gi_wp2
 gi_loopw [4] (fun v wr => ∃ (pre : List (Ln l i)) (m : Nat), m ≤ n ∧ v = .int .i64 ((m : Int) - 1) ∧ zgh l i = pre.map Subtype.val ++ (if m = 0 then [] else zgh l (m - 1)) ∧ Below n₀ W wr ∧ J pre wr) (fun v _ => (intOf v + 1).toNat)
 case atStart => exact ⟨[], i + 1, HI.out, by rw [show ((i + 1 : Nat) : Int) - 1 = (i : Int) by omega], by rw [if_neg (Nat.succ_ne_zero _), Nat.add_sub_cancel, List.map_nil, List.nil_append], Below.refl _ _, HJ0.out⟩
 case round =>
  obtain ⟨pre, m, hmn, rfl, he, hg, hj⟩ := hrel
  have HE := Lib.hid he
  have HG := Lib.hid hg
  have HJ := Lib.hid hj
  have HMN := Lib.hid hmn
  clear he hg hj hmn
  by_cases h0 : m = 0
  ·
   subst h0
   have HE' : Hid (pre.map Subtype.val = zgh l i) := by show _ = _; have := HE.out; rw [if_pos rfl, List.append_nil] at this; exact this.symm
   rw [show (((0 : Nat) : Int) - 1) = -1 from rfl]
   gi_wp2
   go_end0
   exact ⟨⟨_, rfl⟩, .inl ⟨pre, HE'.out, HJ.out⟩⟩
  ·
   obtain ⟨k, rfl⟩ : ∃ k, m = k + 1 := ⟨m - 1, by omega⟩
   rw [show (((k + 1 : Nat) : Int) - 1) = (k : Int) by omega]
   have HE' : Hid (zgh l i = pre.map Subtype.val ++ zgh l k) := HE.out.trans (by rw [if_neg h0, Nat.add_sub_cancel])
   have HK : Hid (k < n) := HMN.out
   have HC' : Hid (zgh l k = k :: (if k = 0 then [] else zgh l (up l k))) := z13 HM.out (by have := HL.out; have := HK.out; omega)
   have HIN : Hid (k ∈ zgh l i) := by show k ∈ zgh l i; rw [HE'.out, HC'.out]; simp
   have t0 : ((k : Int) != -1) = true := by simp
   have u1 : (k : Int) < (n : Int) := by have := HK.out; omega
   have u2 : (0 : Int) ≤ (k : Int) := by omega
   obtain ⟨fn, tmps, assign, body, hy, hR⟩ := HY.out pre ⟨k, HIN.out⟩ wr HJ.out (by rw [HE'.out, List.length_append, HC'.out]; simp)
   have HRR := Lib.hid hR
   clear h0 HE HMN hR
   gi_wp2
   refine HRR.out.mono ?_
   rintro e W3 (⟨rfl, hJ3, hk3⟩ | ⟨rfl, hJx3⟩)
   ·
    have HG3 := Lib.hid (HG.out.trans hk3)
    have HJ3 := Lib.hid hJ3
    obtain ⟨z0, z1, zl⟩ := za2 (HT.out W3 HG3.out)
    dsimp only at z0
    rw [zat] at z0
    have y1 := z2u (HR.out W3 HG3.out) (i := k) (by have := HL.out; have := HK.out; omega)
    clear hJ3 hk3
    by_cases hk : k = 0
    ·
     subst hk
     rw [HM.out.first, Nat.zero_mul, Nat.add_zero] at y1
     gi_wp2
     go_roundw
     case rel => exact ⟨pre ++ [⟨0, HIN.out⟩], 0, Nat.zero_le _, rfl, HE'.out.trans (by rw [HC'.out]; simp), HG3.out, HJ3.out⟩
     case measure => simp [intOf]
    ·
     obtain ⟨hp, hu, _⟩ := HM.out.par (k := k) (by omega) (by have := HL.out; have := HK.out; omega)
     rw [hp] at y1
     have HU := Lib.hid hu
     have HK0 := Lib.hid hk
     clear hp hu hk
     gi_wp2
     go_roundw
     case rel => exact ⟨pre ++ [⟨k, HIN.out⟩], up l k + 1, by have := HU.out; have := HK.out; omega, by rw [show ((up l k + 1 : Nat) : Int) - 1 = (up l k : Int) by omega], HE'.out.trans (by rw [HC'.out, if_neg HK0.out, if_neg (Nat.succ_ne_zero _), Nat.add_sub_cancel, List.map_append, List.append_assoc]; rfl), HG3.out, HJ3.out⟩
     case measure => have := HU.out; simp [intOf]; omega
   ·
    have HJ3 := Lib.hid hJx3
    clear hJx3
    gi_wp2
    refine bodyPost_ret (results_none rfl _ _ _) rfl ?_
    exact ⟨⟨_, rfl⟩, .inr ⟨pre ++ [⟨k, HIN.out⟩], ⟨if k = 0 then [] else zgh l (up l k), (HE'.out.trans (by rw [HC'.out, List.map_append, List.append_assoc]; rfl)).symm⟩, HJ3.out⟩⟩
end
section
open Go.Shelf
attribute [local go_sem] Oper.semAt_some
theorem z01 (s : SlV) (l : List Nd) (i k : Int) (w : World) (h : SlE Ene w (sv s) l) (hk : isT l k = false) :
  Calls Tryz.prog 20 #[.agg (tr ⟨s⟩), .int .i64 i, .int .i64 k] w fun e w' => e = .returned (.bool false) ∧ Below w.heap.size w w' := by
 have HP := Lib.hid (fun W (g : Below w.heap.size w W) => zgy s l k W (zac g h))
 rw [hk] at HP
 obtain ⟨W0, hW0⟩ : ∃ W0, W0 = ((w.alloc (.cells (tr ⟨s⟩) 28)).alloc (.cells #[.int .i64 i] 3)).alloc (.cells #[.bool false] 4) := ⟨_, rfl⟩
 obtain ⟨hB, h0, h1, h2, hz⟩ := zfw w _ _ _ _ _ _ W0 hW0
 have HB := Lib.hid hB
 have H2 := Lib.hid h2
 have HW := Lib.hid hW0
 clear hW0 h hk hB h0 h1 h2 hz
 go_enter Tryz.func20, Tryz.ntmps20
 go_wp2_with fail
 rw [← HW.out]
 refine (HP.out W0 HB.out).mono ?_
 rintro e w1 ⟨rfl, g1⟩
 have G1 := Lib.hid (zad HB.out g1)
 have hc : w1.cell? ⟨w.heap.size + 1 + 1, 0, none⟩ = some (.bool false) ∧ w1.frozen? ⟨w.heap.size + 1 + 1, 0, none⟩ = false := zao (zab g1 H2.out)
 obtain ⟨z0, z1⟩ := hc
 clear g1
 go_wp2_with fail
 have hs := World.cell?_setCell_same' w1 ⟨w.heap.size + 1 + 1, 0, none⟩ (.bool false) (by rw [z0]; rfl)
 exact bodyPost_ret (v := .bool false) (by simp [results, Tryz.results20, go_sem, hs]) rfl ⟨rfl, G1.out.setCell (p := ⟨w.heap.size + 1 + 1, 0, none⟩) (by simp; omega) _⟩
theorem zxr (s : SlV) (l : List Nd) (i : Int) (k : Nat) (w : World) (h : SlE Ene w (sv s) l) (hm : MayT l) (hk : k < l.length) :
  Calls Tryz.prog 20 #[.agg (tr ⟨s⟩), .int .i64 i, .int .i64 (k : Int)] w fun e w' => e = .returned (.bool (decide (0 ≤ i) && za5 l i.toNat k)) ∧ Below w.heap.size w w' := by
 have HP := Lib.hid (fun W (g : Below w.heap.size w W) => zgy s l k W (zac g h))
 rw [zkd hm hk] at HP
 have HL := Lib.hid (zdm h)
 obtain ⟨p, n, cp⟩ := s
 dsimp only at HL
 obtain ⟨b1, o1, rfl, q1, x1⟩ := zf4 h hm.pos
 obtain ⟨W0, hW0⟩ : ∃ W0, W0 = ((w.alloc (.cells (tr ⟨⟨some ⟨b1, o1, none⟩, n, cp⟩⟩) 28)).alloc (.cells #[.int .i64 i] 3)).alloc (.cells #[.bool false] 4) := ⟨_, rfl⟩
 obtain ⟨hB, h0, h1, h2, hz⟩ := zfw w _ _ _ _ _ _ W0 hW0
 have HB := Lib.hid hB
 have H0 := Lib.hid h0
 have H1 := Lib.hid h1
 have H2 := Lib.hid h2
 have HZ := Lib.hid hz
 have HW := Lib.hid hW0
 have HX := Lib.hid x1
 have HQ := Lib.hid q1
 have HM := Lib.hid hm
 have HK := Lib.hid hk
 obtain ⟨r, hr⟩ : ∃ r, r = (decide (0 ≤ i) && za5 l i.toNat k) := ⟨_, rfl⟩
 rw [← hr]
 have HR := Lib.hid hr
 clear hW0 h hk hB h0 h1 h2 hz hm x1 q1 hr
 refine callsIn_wide.1 (callsIn_of_wp_marks (n := 3) Tryz.func20 rfl trivial (wpIn_wide.2 ?_))
 simp only [Tryz.ntmps20, List.size_toArray, List.length_cons, List.length_nil, Nat.reduceAdd, Nat.reduceSub, Array.replicate_succ, Array.replicate_zero, List.push_toArray, List.append_toArray, List.nil_append, List.cons_append]
 go_wp2_with fail
 rw [← HW.out]
 refine (HP.out W0 HB.out).mono ?_
 rintro e w1 ⟨rfl, g1⟩
 have G1 := Lib.hid (zad HB.out g1)
 have G01 := Lib.hid g1
 have z1 := zaf (zab g1 H0.out) (zbf _)
 clear g1
 go_wp2_with fail
 refine (zy0 _ _ _).mono ?_
 rintro e w2 ⟨rfl, hw2⟩
 obtain ⟨hB2, hT2, hC2, hz2⟩ := zd0 w1 _ _ _ _ w2 hw2
 have HB2 := Lib.hid hB2
 have HT2 := Lib.hid hT2
 have HC2 := Lib.hid hC2
 have HZ2 := Lib.hid hz2
 clear hw2 hB2 hT2 hC2 hz2 z1
 go_wp2_with fail
 refine (wpIn_wide (n := 3)).1 ?_
 have hs1 : w.heap.size + 3 ≤ w1.heap.size := by have := G01.out.size; have := HZ.out; omega
 have HS1 := Lib.hid hs1
 clear hs1
 refine wpIn_rangeFunc_ownF (w0 := w2) rfl (by omega) (gf := 90) (lb := #[.pointer (some ⟨w1.heap.size + 1, 0, none⟩), .pointer (some ⟨w1.heap.size, 0, none⟩)]) rfl trivial (zbb Tryz.func90 (by kernel_rfl) (by kernel_rfl))
  (zpa Fence.wide 2 trivial rfl (by omega) (w1.heap.size + 1) w1.heap.size b1 o1 n cp w2.heap.size l k w2 HM.out HL.out (by have := HL.out; have := HK.out; omega)
   (zao HC2.out).1 HT2.out (zhd (zad G1.out HB2.out) HX.out) (by have := HZ2.out; omega) (by have := HZ2.out; omega) (by have := HQ.out; have := HS1.out; have := HZ2.out; omega) (Nat.le_refl _))
  belowK_t (belowK_b (Nat.le_refl _)) (Below.refl _ _) (fun _ => rfl)
  (fun pre W => (∀ y ∈ pre, ((y.1 : Nat) : Int) ≠ i) ∧ Below w2.heap.size w2 W)
  (fun c pre W => (((c = .ret ∧ ∃ y ∈ pre, ((y.1 : Nat) : Int) = i) ∧ W.cell? ⟨w.heap.size + 1 + 1, 0, none⟩ = some (.bool true)) ∧ Below w.heap.size w W))
  (z73 _ (Nat.le_refl _)) (fun c => z7u (w := w) (B := w2.heap.size) (fun pre : List (Ln l k) => c = .ret ∧ ∃ y ∈ pre, ((y.1 : Nat) : Int) = i) _ (fun _ => .bool true) (by have := HZ2.out; have := HS1.out; omega))
  ⟨fun _ h => absurd h List.not_mem_nil, Below.refl _ _⟩ ?a1 ?assign ?body ?done ?stop
 case assign =>
  intro lo x W K hK
  gi_wp2
  exact hK
 case body =>
  rintro lo pre x W ⟨hp, hB⟩ hlen
  have HP := Lib.hid hp
  have HBW := Lib.hid hB
  have c1 := (zao (zab (zad G01.out (zad HB2.out hB)) H1.out)).1
  obtain ⟨c2, c3⟩ := zao (zab (zad G01.out (zad HB2.out hB)) H2.out)
  have HC2' : Hid (W.cell? ⟨w.heap.size + 1 + 1, 0, none⟩ = some (.bool false) ∧ W.frozen? ⟨w.heap.size + 1 + 1, 0, none⟩ = false) := ⟨c2, c3⟩
  have HBw : Hid (Below w.heap.size w W) := zad G1.out (zad HB2.out hB)
  clear hp hB c2 c3 hlen
  obtain ⟨c2, c3⟩ := HC2'.out
  by_cases he : ((x.1 : Nat) : Int) = i
  ·
   have t1 : (((x.1 : Nat) : Int) == i) = true := by simpa using he
   have HE := Lib.hid he
   clear he
   gi_wp2
   exact ⟨KeepsOthers.setCell _ _ _, ⟨⟨rfl, x, by simp, HE.out⟩, World.cell?_setCell_same' _ _ _ (by rw [HC2'.out.1]; rfl)⟩, HBw.out.setCell (p := ⟨w.heap.size + 1 + 1, 0, none⟩) (by simp; omega) _⟩
  ·
   have t1 : (((x.1 : Nat) : Int) == i) = false := by simpa using he
   have HE := Lib.hid he
   clear he
   gi_wp2
   exact ⟨KeepsOthers.refl _, Below.refl _ _, fun y hy => by
    rcases List.mem_append.1 hy with h | h
    ·
     exact HP.out y h
    ·
     rw [List.mem_singleton] at h; subst h; exact HE.out, HBW.out⟩
 case done =>
  rintro D ys W hD hys ⟨hp, hB⟩ hK
  have hX : r = false := by
   rw [HR.out, Bool.and_eq_false_iff, ← Bool.not_eq_true]
   by_cases h0 : 0 ≤ i
   ·
    right
    rw [← Bool.not_eq_true]
    intro ha
    have hin := (zkx HM.out i.toNat k HK.out).2 ha
    rw [← hys] at hin
    obtain ⟨y, hy, e⟩ := List.mem_map.1 hin
    exact hp y hy (by omega)
   ·
    left; simpa using h0
  have HX' := Lib.hid hX
  have HKD := Lib.hid hK
  have HBW := Lib.hid hB
  have hc : W.cell? ⟨w.heap.size + 1 + 1, 0, none⟩ = some (.bool false) ∧ W.frozen? ⟨w.heap.size + 1 + 1, 0, none⟩ = false := zao (zab (zad G01.out (zad HB2.out hB)) H2.out)
  have HC := Lib.hid hc
  obtain ⟨c2, c3⟩ := hc
  have HBw : Hid (Below w.heap.size w W) := zad G1.out (zad HB2.out hB)
  clear hX hp hB hK hys
  go_wp2_with fail
  have hK' := (KeepsOthers.setCell W ⟨w.heap.size + 1 + 1, 0, none⟩ (.bool false)).same D _ HKD.out rfl
  have hs := zmm hK' (World.cell?_setCell_same' W ⟨w.heap.size + 1 + 1, 0, none⟩ (.bool false) (by rw [HC.out.1]; rfl))
  exact zkc (v := .bool false) hK' ⟨by simp [results, Tryz.results20, go_sem, hs], by rw [HX'.out], zeh hK' (HBw.out.setCell (p := ⟨w.heap.size + 1 + 1, 0, none⟩) (by simp; omega) _) (by have := HZ2.out; have := HS1.out; omega)⟩
 case stop =>
  rintro D c pre W hD hpre ⟨⟨⟨rfl, y, hy, he⟩, hc⟩, hB⟩ hK
  have hX : r = true := by
   rw [HR.out, Bool.and_eq_true, decide_eq_true_iff]
   refine ⟨by omega, (zkx HM.out i.toNat k HK.out).1 ?_⟩
   rw [show i.toNat = y.1 by omega]
   exact hpre.subset (List.mem_map_of_mem hy)
  have HX' := Lib.hid hX
  have HBW := Lib.hid hB
  have HKD := Lib.hid hK
  have hs := zmm hK hc
  have HD := Lib.hid hD
  clear hX hB hy he hpre
  gi_wp2
  exact zkc (v := .bool true) HKD.out ⟨by simp [results, Tryz.results20, go_sem, hs], by rw [HX'.out], zeh HKD.out HBW.out (by have := HZ2.out; have := HS1.out; have := HD.out; omega)⟩
theorem zh2 (s : SlV) (l : List Nd) (i k : Int) (w : World) (h : SlE Ene w (sv s) l) :
  Calls Tryz.prog 20 #[.agg (tr ⟨s⟩), .int .i64 i, .int .i64 k] w fun e w' => e = .returned (.bool (zcj l i k)) ∧ Below w.heap.size w w' := by
 by_cases hk : isT l k = true
 ·
  obtain ⟨hm, hk0, hk1⟩ := ziz.1 hk
  obtain ⟨k', rfl⟩ : ∃ k' : Nat, k = k' := ⟨k.toNat, by omega⟩
  have e : zcj l i (k' : Int) = (decide (0 ≤ i) && za5 l i.toNat k') := by
   unfold zcj
   rw [hk, Int.toNat_natCast, Bool.and_true]
   by_cases h0 : 0 ≤ i
   ·
    rw [decide_eq_true h0, Bool.true_and]
    by_cases ha : za5 l i.toNat k' = true
    ·
     have := zho hm i.toNat k' (by omega) ha
     rw [ha, Bool.and_true]
     exact ziz.2 ⟨hm, h0, by omega⟩
    ·
     rw [Bool.not_eq_true] at ha
     rw [ha, Bool.and_false]
   ·
    have : isT l i = false := by
     rw [← Bool.not_eq_true, ziz]
     exact fun hh => h0 hh.2.1
    rw [this, decide_eq_false h0]
  rw [e]
  exact zxr s l i k' w h hm (by omega)
 ·
  have hk' : isT l k = false := by simpa using hk
  have e : zcj l i k = false := by unfold zcj; rw [hk', Bool.and_false, Bool.false_and]
  rw [e]
  exact z01 s l i k w h hk'
end
theorem zjd : ∀ args w, (callFunc 15 args).run Tryz.prog w = .ok (.enter 15 args) w := zbb Tryz.func15 (by kernel_rfl) (by kernel_rfl)
theorem zot : ∀ args w, (callFunc 20 args).run Tryz.prog w = .ok (.enter 20 args) w := zbb Tryz.func20 (by kernel_rfl) (by kernel_rfl)
theorem zph (s : SlV) (l : List Nd) (c d : Ck) (w : World) (h : SlE Ene w (sv s) l) :
  Calls Tryz.prog 59 #[.agg (tr ⟨s⟩), .agg (cc c), .agg (cc d)] w fun e w' => e = .returned (.bool (za7 l c d)) ∧ Below w.heap.size w w' := by
 have HF := Lib.hid (fun r W (g : Below w.heap.size w W) => zfk s l r W (zac g h))
 have HA := Lib.hid (fun W (g : Below w.heap.size w W) => zh2 s l (zay l d.root) (zay l c.root) W (zac g h))
 obtain ⟨r, hr⟩ : ∃ r, r = za7 l c d := ⟨_, rfl⟩
 rw [← hr]
 rw [show zcj l (zay l d.root) (zay l c.root) = r from hr.symm] at HA
 have HFc := Lib.hid (HF.out c.root)
 have HFd := Lib.hid (HF.out d.root)
 generalize zay l c.root = x at *
 generalize zay l d.root = y at *
 obtain ⟨W0, hW0⟩ : ∃ W0, W0 = ((w.alloc (.cells (tr ⟨s⟩) 28)).alloc (.cells (cc c) 37)).alloc (.cells (cc d) 37) := ⟨_, rfl⟩
 obtain ⟨hB, k0, k1, k2, hz0⟩ := zfw w _ _ _ _ _ _ W0 hW0
 have HB := Lib.hid hB
 have HW := Lib.hid hW0
 have z0 := (za2 k0).2.1
 have z1 := zff k1
 have z2 := zff k2
 clear hW0 h hB k0 k1 k2 hz0 hr HF
 go_enter Tryz.func59, Tryz.ntmps59
 go_upto_region 1 with fail
 rw [← HW.out]
 have L0 := fun p : Wd W0.drew => zb8 z0 (by decide) p
 have L1 := fun p : Wd W0.drew => zb8 z1 (by decide) p
 have L2 := fun p : Wd W0.drew => zb8 z2 (by decide) p
 clear z0 z1 z2
 refine za4 [4, 8, 9] (by kernel_rfl) (by kernel_rfl) (by kernel_rfl) ?_
 repeat (first | (refine zae rfl rfl _ zag ?_; (first | go_big_quiet_step (fail) | quiet_step (fail)); refine wpQuiet_nil ?_) | refine zam rfl ?_)
 refine zau rfl rfl rfl zjd #[.agg (tr ⟨s⟩), .agg (rc d.root)] rfl ?_
 refine (HFd.out _ (zad HB.out (zap (Below.refl _ _) 1))).mono ?_
 rintro e u ⟨rfl, g⟩
 refine ⟨_, rfl, g, ?_⟩
 simp only [Act.put, List.setIfInBounds_toArray, List.set_cons_zero, List.set_cons_succ]
 have G : Hid (Below W0.heap.size W0 u) := zad (zap (Below.refl _ _) 1) g
 clear g
 repeat (first | (refine zae rfl rfl _ zag ?_; (first | go_big_quiet_step (fail) | quiet_step (fail)); refine wpQuiet_nil ?_) | refine zam rfl ?_)
 refine zau rfl rfl rfl zjd #[.agg (tr ⟨s⟩), .agg (rc c.root)] rfl ?_
 refine (HFc.out _ (zad HB.out G.out)).mono ?_
 rintro e u2 ⟨rfl, g⟩
 refine ⟨_, rfl, g, ?_⟩
 simp only [Act.put, List.setIfInBounds_toArray, List.set_cons_zero, List.set_cons_succ]
 replace G : Hid (Below W0.heap.size W0 u2) := zad G.out g
 clear g
 repeat (first | (refine zae rfl rfl _ zag ?_; (first | go_big_quiet_step (fail) | quiet_step (fail)); refine wpQuiet_nil ?_) | refine zam rfl ?_)
 refine zau rfl rfl rfl zot #[.agg (tr ⟨s⟩), .int .i64 y, .int .i64 x] rfl ?_
 refine (HA.out _ (zad HB.out G.out)).mono ?_
 rintro e u3 ⟨rfl, g⟩
 refine ⟨_, rfl, g, ?_⟩
 simp only [Act.put, List.setIfInBounds_toArray, List.set_cons_zero, List.set_cons_succ]
 replace G : Hid (Below W0.heap.size W0 u3) := zad G.out g
 clear g
 repeat (first | (refine zae rfl rfl _ zag ?_; (first | go_big_quiet_step (fail) | quiet_step (fail)); refine wpQuiet_nil ?_) | refine zam rfl ?_)
 refine zbx ?_
 clear L0 L1 L2
 go_wp2_with fail
 go_ret
 exact ⟨rfl, zad HB.out G.out⟩
end Go.Proofs.YtmihlihlpdkdcaaGreat
