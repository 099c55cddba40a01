import Derived.Test.YtmihlihlpdkdcaaGreatS19
import Derived.Test.YtmihlihlpdkdcaaGreatS06
import Derived.Test.YtmihlihlpdkdcaaGreatS10
import Derived.Deep.Cut
import Derived.Deep.CutRange
import Derived.Deep.RegionLaw
import Derived.Test.YtmihlihlpdkdcaaGreatS13
import Derived.Laws.ShiftsVarLaws
import Derived.Shelf.RegionOpen
namespace Go.Proofs.YtmihlihlpdkdcaaGreat
open Go.RowKit
set_option maxRecDepth 200000
set_option maxHeartbeats 64000000
section
open Go.Maps
theorem zwu (w : World) : (zeroValue 3).run Tryz.prog w = .ok (.int .i64 0) w := by kernel_rfl
theorem z1g {W : World} {b n : Nat} {D : DataW Unit} (h : W.ownsMap Tryz.prog 23 (plainElem Tryz.prog 3) b n D) {r : Rt} {c : Int} (hc : D.atKey (rk r) (iL 0) = .lit (.int .i64 c)) :
  (Instr.lookup 89 (.map (some b)) (.agg (rc r)) true).run Tryz.prog W = .ok (.tuple #[.int .i64 c, .bool (Maps.has D (rk r))]) W := by
 obtain ⟨v, ps, hrun, hv⟩ := h.look_ok keyed_root Tryz.underlying89 (zwu W) (plainElem_int Tryz.underlying3 (by decide)) (zf9 r)
 obtain ⟨a, rfl, hz, _⟩ := plainElem_int_inv Tryz.underlying3 hv
 have e : D.atKey (rk r) (.lit (.int .i64 0)) = .lit (.int .i64 a) := congrArg Prod.fst hz
 have hc' : D.atKey (rk r) (.lit (.int .i64 0)) = .lit (.int .i64 c) := hc
 rw [e] at hc'
 injection hc' with h1
 injection h1 with _ h2
 rw [← h2]
 exact hrun
def putR (l : List Nd) (r : Rt) : Int := if 0 ≤ za2 l r then za2 l r else 0
theorem zud {l : List Nd} (h : MayT l) (r : Rt) : (plD l l.length).atKey (rk r) (iL 0) = .lit (.int .i64 (putR l r)) ∧ Maps.has (plD l l.length) (rk r) = decide (0 ≤ za2 l r) := by
 obtain ⟨h1, h2⟩ := yht h r
 refine ⟨?_, h1⟩
 unfold putR
 by_cases hf : 0 ≤ za2 l r
 ·
  rw [if_pos hf]; exact h2 hf
 ·
  rw [if_neg hf]
  exact atKey_of_not_has (by rw [h1]; exact decide_eq_false hf) _
theorem zge (s : SlV) (l : List Nd) (r : Rt) (w : World) (h : SlE Ene w (sv s) l) :
  Calls Tryz.prog 15 #[.agg (tr ⟨s⟩), .agg (rc r)] w fun e w' => e = .returned (.int .i64 (za2 l r)) ∧ Below w.heap.size w w' := by
 have HM := Lib.hid (fun W (g : Below w.heap.size w W) => zi2 s l W (zac g h))
 have HS := Lib.hid h
 obtain ⟨a, ha⟩ : ∃ a, a = decide (MayT l) := ⟨_, rfl⟩
 rw [← ha] at HM
 have HA := Lib.hid ha
 obtain ⟨W0, hW0⟩ : ∃ W0, W0 = (w.alloc (.cells (tr ⟨s⟩) 28)).alloc (.cells (rc r) 23) := ⟨_, rfl⟩
 obtain ⟨hB, h0, h1, hz⟩ := zdz w _ _ _ _ W0 hW0
 have HB := Lib.hid hB
 have H0 := Lib.hid h0
 have H1 := Lib.hid h1
 have HW := Lib.hid hW0
 obtain ⟨x, hx⟩ : ∃ x, x = za2 l r := ⟨_, rfl⟩
 rw [← hx]
 have HX := Lib.hid hx
 clear h hW0 hB h0 h1 hz ha hx
 go_enter Tryz.func15, Tryz.ntmps15
 go_wp2_with fail
 rw [← HW.out]
 refine (HM.out W0 HB.out).mono ?_
 rintro e w1 ⟨rfl, g1⟩
 have G1 := Lib.hid (zad HB.out g1)
 have N0 := Lib.hid (zab g1 H0.out)
 have N1 := Lib.hid (zab g1 H1.out)
 clear g1
 cases a
 ·
  have hX : Hid (x = -1) := by show x = -1; rw [HX.out]; exact yi0 (fun hm => by have := HA.out; rw [decide_eq_true hm] at this; cases this) r
  go_wp2_with fail
  go_ret
  exact ⟨by rw [hX.out]; first | done | rfl, G1.out⟩
 ·
  have HMl := Lib.hid (of_decide_eq_true HA.out.symm)
  have hx := HX.out
  obtain ⟨c, hc⟩ : ∃ c, c = putR l r := ⟨_, rfl⟩
  obtain ⟨q, hq⟩ : ∃ q, q = decide (0 ≤ x) := ⟨_, rfl⟩
  have hlk := zud HMl.out r
  rw [← hc, ← hx, ← hq] at hlk
  have HLK := Lib.hid hlk
  have HXF : Hid (q = false → -1 = x) := fun e => by
   have := ybc (l := l) r
   rw [e] at hq
   have := of_decide_eq_false hq.symm
   omega
  have HXT : Hid (q = true → c = x) := fun e => by
   rw [e] at hq
   have := of_decide_eq_true hq.symm
   rw [hc]; unfold putR
   rw [if_pos (by omega)]; exact hx.symm
  clear hx hc hq hlk
  go_wp2_with fail
  have La := fun q : Wd w1.drew => yqj N0.out q
  have Lb := fun q : Wd w1.drew => zd8 (zae N1.out (zal r)) (by decide) q
  refine zbj [1] (by kernel_rfl) (by kernel_rfl) (by kernel_rfl) ?_
  repeat (refine zap rfl rfl _ zax ?_; (first | go_big_quiet_step (fail) | quiet_step (fail)); refine wpQuiet_nil ?_)
  refine zbl rfl rfl rfl zl6 #[.agg (tr ⟨s⟩)] rfl ?_
  refine (z7k s l _ (zac (zad G1.out (zar (Below.refl _ _) 1)) HS.out) (by have := HMl.out.le; omega)).mono ?_
  rintro e u ⟨b, rfl, ho, g⟩
  refine ⟨_, rfl, g, ?_⟩
  simp only [Act.put, List.setIfInBounds_toArray, List.set_cons_zero, List.set_cons_succ]
  have Lc := fun q : Wd u => z1g (zbz q.h ho) HLK.out.1
  rw [HLK.out.2] at Lc
  have G := Lib.hid (zad (zad G1.out (zar (Below.refl _ _) 1)) g)
  clear g ho
  refine zap rfl rfl _ zax ?_
  (first | go_big_quiet_step (fail) | quiet_step (fail))
  refine wpQuiet_nil ?_
  refine zap rfl rfl u (yea 1 u (by simp) (by kernel_rfl)) ?_
  (first | go_big_quiet_step (fail) | quiet_step (fail))
  refine wpQuiet_nil ?_
  repeat (refine zap rfl rfl _ zax ?_; (first | go_big_quiet_step (fail) | quiet_step (fail)); refine wpQuiet_nil ?_)
  refine zcw ?_
  cases q
  ·
   have hX : Hid (-1 = x) := HXF.out rfl
   go_wp2_with fail
   go_ret
   exact ⟨by rw [← hX.out]; first | done | rfl, G.out⟩
  ·
   have hX : Hid (c = x) := HXT.out rfl
   go_wp2_with fail
   go_ret
   exact ⟨by rw [← hX.out]; first | done | rfl, G.out⟩
theorem zv6 : ∀ args w, (callFunc 15 args).run Tryz.prog w = .ok (.enter 15 args) w := za8 Tryz.func15 (by kernel_rfl) (by kernel_rfl)
end
theorem zlw (s : SlV) (l : List Nd) (i : Int) (w : World) (h : SlE Ene w (sv s) l) :
  Calls Tryz.prog 60 #[.agg (tr ⟨s⟩), .int .i64 i] w fun e w' => e = .returned (.bool (isT l i)) ∧ Below w.heap.size w w' := by
 have HM := Lib.hid (fun W (g : Below w.heap.size w W) => zi2 s l W (zac g h))
 have hl := zc6 h
 obtain ⟨p, n, cp⟩ := s
 dsimp only at hl
 obtain ⟨r, hr⟩ : ∃ r, r = decide (MayT l) := ⟨_, rfl⟩
 rw [← hr] at HM
 obtain ⟨x, hx⟩ : ∃ x, x = isT l i := ⟨_, rfl⟩
 rw [← hx]
 have HX : Hid (x = (r && (decide (0 ≤ i) && decide (i < (n : Int))))) := by rw [hx, hr]; unfold isT; rw [hl]; rfl
 obtain ⟨W0, hW0⟩ : ∃ W0, W0 = w.alloc (.cells (tr ⟨⟨p, n, cp⟩⟩) 28) := ⟨_, rfl⟩
 have HB : Hid (Below w.heap.size w W0) := by rw [hW0]; exact below1
 have M0 : Hid (W0.heap[w.heap.size]? = some (.cells (tr ⟨⟨p, n, cp⟩⟩) 28 (0, 0))) := by rw [hW0]; exact heap_alloc_last w _
 have HW := Lib.hid hW0
 clear hW0 h hl hr hx
 go_enter Tryz.func60, Tryz.ntmps60
 go_wp2_with fail
 rw [← HW.out]
 refine (HM.out W0 HB.out).mono ?_
 rintro e w1 ⟨rfl, g1⟩
 have G1 := Lib.hid (zad HB.out g1)
 obtain ⟨z0, z1, zl⟩ := zaz (zab g1 M0.out)
 dsimp only at z0
 rw [zav] at z0
 cases r
 ·
  go_wp2_with fail
  go_ret
  exact ⟨by rw [HX.out]; rfl, G1.out⟩
 ·
  by_cases h0 : 0 ≤ i
  ·
   have t0 : decide (0 ≤ i) = true := decide_eq_true h0
   by_cases h1 : i < (n : Int)
   ·
    have t1 : decide (i < (n : Int)) = true := decide_eq_true h1
    have hX : Hid (x = true) := by show x = true; rw [HX.out, t0, t1]; rfl
    clear h0 h1
    go_wp2_with fail
    go_ret
    exact ⟨by rw [hX.out]; first | done | rfl, G1.out⟩
   ·
    have t1 : decide (i < (n : Int)) = false := decide_eq_false h1
    have hX : Hid (x = false) := by show x = false; rw [HX.out, t0, t1]; rfl
    clear h0 h1
    go_wp2_with fail
    go_ret
    exact ⟨by rw [hX.out]; first | done | rfl, G1.out⟩
  ·
   have t0 : decide (0 ≤ i) = false := decide_eq_false h0
   have hX : Hid (x = false) := by show x = false; rw [HX.out, t0]; rfl
   clear h0
   go_wp2_with fail
   go_ret
   exact ⟨by rw [hX.out]; first | done | rfl, G1.out⟩
def zr6 (l : List Nd) : Nat → Nat → List Nat
 | 0, i => [i]
 | f + 1, i => if i = 0 then [i] else i :: zr6 l f (up l i)
def zgu (l : List Nd) (i : Nat) : List Nat := zr6 l i i
section
variable {l : List Nd}
theorem z79 (h : MayT l) : ∀ (k : Nat), k < l.length → ∀ f, k ≤ f → zr6 l f k = zr6 l k k := by
 intro k
 induction k using Nat.strongRecOn with
 | _ k ih =>
  intro hk f hf
  by_cases h0 : k = 0
  ·
   subst h0
   cases f with
   | zero => rfl
   | succ f => simp [zr6]
  ·
   obtain ⟨_, hu, _⟩ := h.par (Nat.pos_of_ne_zero h0) hk
   obtain ⟨f', rfl⟩ : ∃ f', f = f' + 1 := ⟨f - 1, by omega⟩
   obtain ⟨k', hk'⟩ : ∃ k', k = k' + 1 := ⟨k - 1, by omega⟩
   have e1 := ih (up l k) hu (by omega) f' (by omega)
   have e2 := ih (up l k) hu (by omega) k' (by omega)
   rw [show zr6 l k k = zr6 l (k' + 1) k by rw [← hk']]
   simp only [zr6]
   rw [e1, e2]
theorem yao : zgu l 0 = [0] := rfl
theorem z85 (h : MayT l) {k : Nat} (h0 : 0 < k) (hk : k < l.length) : zgu l k = k :: zgu l (up l k) := by
 obtain ⟨_, hu, _⟩ := h.par h0 hk
 obtain ⟨k', rfl⟩ : ∃ k', k = k' + 1 := ⟨k - 1, by omega⟩
 unfold zgu
 rw [show zr6 l (k' + 1) (k' + 1) = if k' + 1 = 0 then [k' + 1] else (k' + 1) :: zr6 l k' (up l (k' + 1)) from rfl]
 rw [if_neg (Nat.succ_ne_zero _), z79 h (up l (k' + 1)) (by omega) k' (by omega)]
theorem yd8 (h : MayT l) {k : Nat} (hk : k < l.length) : zgu l k = k :: (if k = 0 then [] else zgu l (up l k)) := by
 by_cases h0 : k = 0
 ·
  subst h0; rfl
 ·
  rw [if_neg h0, z85 h (Nat.pos_of_ne_zero h0) hk]
theorem zo3 (h : MayT l) (i : Nat) : ∀ k, k < l.length → (i ∈ zgu l k ↔ zbn l i k = true) := by
 intro k
 induction k using Nat.strongRecOn with
 | _ k ih =>
  intro hk
  by_cases h0 : k = 0
  ·
   subst h0
   rw [yao, zdu, List.mem_singleton, decide_eq_true_iff]
  ·
   obtain ⟨_, hu, _⟩ := h.par (Nat.pos_of_ne_zero h0) hk
   rw [z85 h (Nat.pos_of_ne_zero h0) hk, zdn h i (Nat.pos_of_ne_zero h0) hk, List.mem_cons, ih _ hu (by omega)]
end
section
open Go.Shelf
attribute [local go_sem] Oper.semAt_some
theorem z4b (t : Tr) (i : Int) (w : World) :
  Calls Tryz.prog 61 #[.agg (tr t), .int .i64 i] w fun e w' => e = .returned (.func (.func 90) #[] #[.pointer (some ⟨w.heap.size + 1, 0, none⟩), .pointer (some ⟨w.heap.size, 0, none⟩)]) ∧ w' = (w.alloc (.cells (tr t) 28)).alloc (.cells #[.int .i64 i] 3) := by
 go_enter Tryz.func61, Tryz.ntmps61
 go_wp2_with fail
 go_ret
 exact ⟨rfl, rfl⟩
abbrev Ln (l : List Nd) (i : Nat) := { x : Nat // x ∈ zgu l i }
theorem zs5 (F : Fence) (d : Nat) (hf : F.fn 90) (hro : F.round = none) (hd : 1 ≤ d) (bi bt b1 o1 n cp n₀ : Nat) (l : List Nd) (i : Nat) (w : World) (hm : MayT l) (hl : l.length = n) (hi : i < n)
  (hbi : w.cell? ⟨bi, 0, none⟩ = some (.int .i64 (i : Int))) (hbt : w.heap[bt]? = some (.cells (tr ⟨⟨some ⟨b1, o1, none⟩, n, cp⟩⟩) 28 (0, 0))) (hx : w.rangeAt b1 o1 (zam Ene l))
  (h1 : bi < n₀) (h2 : bt < n₀) (h3 : b1 < n₀) (hn₀ : n₀ ≤ w.heap.size) :
  SeqStopsK F d Tryz.prog 90 #[.pointer (some ⟨bi, 0, none⟩), .pointer (some ⟨bt, 0, none⟩)] (fun x : Ln l i => #[Value.int .i64 (x.1 : Int)]) (Below n₀) (fun ys => ys.map Subtype.val = zgu l i) (fun pre => pre.map Subtype.val <+: zgu l i) (zgu l i).length w := by
 intro lo J Jx W hW _ _ hY hJ0
 have HL := Lib.hid hl
 have HM := Lib.hid hm
 have HI := Lib.hid hi
 have HY := Lib.hid hY
 have HJ0 := Lib.hid hJ0
 have g0 := hW.mono hn₀
 have HC : Hid (∀ W', Below n₀ W W' → W'.cell? ⟨bi, 0, none⟩ = some (.int .i64 (i : Int))) := fun W' g => ((g0.trans g).cell (p := ⟨bi, 0, none⟩) h1).trans hbi
 have HT : Hid (∀ W', Below n₀ W W' → W'.heap[bt]? = some (.cells (tr ⟨⟨some ⟨b1, o1, none⟩, n, cp⟩⟩) 28 (0, 0))) := fun W' g => ((g0.trans g).block _ h2).trans hbt
 have HR : Hid (∀ W', Below n₀ W W' → W'.rangeAt b1 o1 (zam Ene l)) := fun W' g j v hv => ((g0.trans g).cell (p := ⟨b1, o1 + j, none⟩) h3).trans (hx j v hv)
 have z00 := HC.out W (Below.refl _ _)
 clear hl hm hi hY hJ0 hbi hbt hx h1 h2 h3 hn₀ hW g0
 refine callsIn_of_wp Tryz.func90 rfl hf ?_ hro
 simp only [Tryz.ntmps90, List.size_toArray, List.length_cons, List.length_nil, Nat.reduceAdd, Nat.reduceSub, Array.replicate_succ, Array.replicate_zero, List.push_toArray, List.append_toArray, List.nil_append, List.cons_append]
 gi_wp2
 gi_loopw [4] (fun v wr => ∃ (pre : List (Ln l i)) (m : Nat), m ≤ n ∧ v = .int .i64 ((m : Int) - 1) ∧ zgu l i = pre.map Subtype.val ++ (if m = 0 then [] else zgu l (m - 1)) ∧ Below n₀ W wr ∧ J pre wr) (fun v _ => (intOf v + 1).toNat)
 case atStart => exact ⟨[], i + 1, HI.out, by rw [show ((i + 1 : Nat) : Int) - 1 = (i : Int) by omega], by rw [if_neg (Nat.succ_ne_zero _), Nat.add_sub_cancel, List.map_nil, List.nil_append], Below.refl _ _, HJ0.out⟩
 case round =>
  obtain ⟨pre, m, hmn, rfl, he, hg, hj⟩ := hrel
  have HE := Lib.hid he
  have HG := Lib.hid hg
  have HJ := Lib.hid hj
  have HMN := Lib.hid hmn
  clear he hg hj hmn
  by_cases h0 : m = 0
  ·
   subst h0
   have HE' : Hid (pre.map Subtype.val = zgu l i) := by show _ = _; have := HE.out; rw [if_pos rfl, List.append_nil] at this; exact this.symm
   rw [show (((0 : Nat) : Int) - 1) = -1 from rfl]
   gi_wp2
   go_end0
   exact ⟨⟨_, rfl⟩, .inl ⟨pre, HE'.out, HJ.out⟩⟩
  ·
   obtain ⟨k, rfl⟩ : ∃ k, m = k + 1 := ⟨m - 1, by omega⟩
   rw [show (((k + 1 : Nat) : Int) - 1) = (k : Int) by omega]
   have HE' : Hid (zgu l i = pre.map Subtype.val ++ zgu l k) := HE.out.trans (by rw [if_neg h0, Nat.add_sub_cancel])
   have HK : Hid (k < n) := HMN.out
   have HC' : Hid (zgu l k = k :: (if k = 0 then [] else zgu l (up l k))) := yd8 HM.out (by have := HL.out; have := HK.out; omega)
   have HIN : Hid (k ∈ zgu l i) := by show k ∈ zgu l i; rw [HE'.out, HC'.out]; simp
   have t0 : ((k : Int) != -1) = true := by simp
   have u1 : (k : Int) < (n : Int) := by have := HK.out; omega
   have u2 : (0 : Int) ≤ (k : Int) := by omega
   obtain ⟨fn, tmps, assign, body, hy, hR⟩ := HY.out pre ⟨k, HIN.out⟩ wr HJ.out (by rw [HE'.out, List.length_append, HC'.out]; simp)
   have HRR := Lib.hid hR
   clear h0 HE HMN hR
   gi_wp2
   refine HRR.out.mono ?_
   rintro e W3 (⟨rfl, hJ3, hk3⟩ | ⟨rfl, hJx3⟩)
   ·
    have HG3 := Lib.hid (HG.out.trans hk3)
    have HJ3 := Lib.hid hJ3
    obtain ⟨z0, z1, zl⟩ := zaz (HT.out W3 HG3.out)
    dsimp only at z0
    rw [zav] at z0
    have y1 := zz2 (HR.out W3 HG3.out) (i := k) (by have := HL.out; have := HK.out; omega)
    clear hJ3 hk3
    by_cases hk : k = 0
    ·
     subst hk
     rw [HM.out.first, Nat.zero_mul, Nat.add_zero] at y1
     gi_wp2
     go_roundw
     case rel => exact ⟨pre ++ [⟨0, HIN.out⟩], 0, Nat.zero_le _, rfl, HE'.out.trans (by rw [HC'.out]; simp), HG3.out, HJ3.out⟩
     case measure => simp [intOf]
    ·
     obtain ⟨hp, hu, _⟩ := HM.out.par (k := k) (by omega) (by have := HL.out; have := HK.out; omega)
     rw [hp] at y1
     have HU := Lib.hid hu
     have HK0 := Lib.hid hk
     clear hp hu hk
     gi_wp2
     go_roundw
     case rel => exact ⟨pre ++ [⟨k, HIN.out⟩], up l k + 1, by have := HU.out; have := HK.out; omega, by rw [show ((up l k + 1 : Nat) : Int) - 1 = (up l k : Int) by omega], HE'.out.trans (by rw [HC'.out, if_neg HK0.out, if_neg (Nat.succ_ne_zero _), Nat.add_sub_cancel, List.map_append, List.append_assoc]; rfl), HG3.out, HJ3.out⟩
     case measure => have := HU.out; simp [intOf]; omega
   ·
    have HJ3 := Lib.hid hJx3
    clear hJx3
    gi_wp2
    refine bodyPost_ret (results_none rfl _ _ _) rfl ?_
    exact ⟨⟨_, rfl⟩, .inr ⟨pre ++ [⟨k, HIN.out⟩], ⟨if k = 0 then [] else zgu l (up l k), (HE'.out.trans (by rw [HC'.out, List.map_append, List.append_assoc]; rfl)).symm⟩, HJ3.out⟩⟩
end
section
open Go.Shelf
attribute [local go_sem] Oper.semAt_some
theorem zx7 (s : SlV) (l : List Nd) (i k : Int) (w : World) (h : SlE Ene w (sv s) l) (hk : isT l k = false) :
  Calls Tryz.prog 20 #[.agg (tr ⟨s⟩), .int .i64 i, .int .i64 k] w fun e w' => e = .returned (.bool false) ∧ Below w.heap.size w w' := by
 have HP := Lib.hid (fun W (g : Below w.heap.size w W) => zlw s l k W (zac g h))
 rw [hk] at HP
 obtain ⟨W0, hW0⟩ : ∃ W0, W0 = ((w.alloc (.cells (tr ⟨s⟩) 28)).alloc (.cells #[.int .i64 i] 3)).alloc (.cells #[.bool false] 4) := ⟨_, rfl⟩
 obtain ⟨hB, h0, h1, h2, hz⟩ := zfd w _ _ _ _ _ _ W0 hW0
 have HB := Lib.hid hB
 have H2 := Lib.hid h2
 have HW := Lib.hid hW0
 clear hW0 h hk hB h0 h1 h2 hz
 go_enter Tryz.func20, Tryz.ntmps20
 go_wp2_with fail
 rw [← HW.out]
 refine (HP.out W0 HB.out).mono ?_
 rintro e w1 ⟨rfl, g1⟩
 have G1 := Lib.hid (zad HB.out g1)
 have hc : w1.cell? ⟨w.heap.size + 1 + 1, 0, none⟩ = some (.bool false) ∧ w1.frozen? ⟨w.heap.size + 1 + 1, 0, none⟩ = false := zaq (zab g1 H2.out)
 obtain ⟨z0, z1⟩ := hc
 clear g1
 go_wp2_with fail
 have hs := World.cell?_setCell_same' w1 ⟨w.heap.size + 1 + 1, 0, none⟩ (.bool false) (by rw [z0]; rfl)
 exact bodyPost_ret (v := .bool false) (by simp [results, Tryz.results20, go_sem, hs]) rfl ⟨rfl, G1.out.setCell (p := ⟨w.heap.size + 1 + 1, 0, none⟩) (by simp; omega) _⟩
theorem zwg (s : SlV) (l : List Nd) (i : Int) (k : Nat) (w : World) (h : SlE Ene w (sv s) l) (hm : MayT l) (hk : k < l.length) :
  Calls Tryz.prog 20 #[.agg (tr ⟨s⟩), .int .i64 i, .int .i64 (k : Int)] w fun e w' => e = .returned (.bool (decide (0 ≤ i) && zbn l i.toNat k)) ∧ Below w.heap.size w w' := by
 have HP := Lib.hid (fun W (g : Below w.heap.size w W) => zlw s l k W (zac g h))
 rw [zq4 hm hk] at HP
 have HL := Lib.hid (zc6 h)
 obtain ⟨p, n, cp⟩ := s
 dsimp only at HL
 obtain ⟨b1, o1, rfl, q1, x1⟩ := znr h hm.pos
 obtain ⟨W0, hW0⟩ : ∃ W0, W0 = ((w.alloc (.cells (tr ⟨⟨some ⟨b1, o1, none⟩, n, cp⟩⟩) 28)).alloc (.cells #[.int .i64 i] 3)).alloc (.cells #[.bool false] 4) := ⟨_, rfl⟩
 obtain ⟨hB, h0, h1, h2, hz⟩ := zfd w _ _ _ _ _ _ W0 hW0
 have HB := Lib.hid hB
 have H0 := Lib.hid h0
 have H1 := Lib.hid h1
 have H2 := Lib.hid h2
 have HZ := Lib.hid hz
 have HW := Lib.hid hW0
 have HX := Lib.hid x1
 have HQ := Lib.hid q1
 have HM := Lib.hid hm
 have HK := Lib.hid hk
 obtain ⟨r, hr⟩ : ∃ r, r = (decide (0 ≤ i) && zbn l i.toNat k) := ⟨_, rfl⟩
 rw [← hr]
 have HR := Lib.hid hr
 clear hW0 h hk hB h0 h1 h2 hz hm x1 q1 hr
 refine callsIn_wide.1 (callsIn_of_wp_marks (n := 3) Tryz.func20 rfl trivial (wpIn_wide.2 ?_))
 simp only [Tryz.ntmps20, List.size_toArray, List.length_cons, List.length_nil, Nat.reduceAdd, Nat.reduceSub, Array.replicate_succ, Array.replicate_zero, List.push_toArray, List.append_toArray, List.nil_append, List.cons_append]
 go_wp2_with fail
 rw [← HW.out]
 refine (HP.out W0 HB.out).mono ?_
 rintro e w1 ⟨rfl, g1⟩
 have G1 := Lib.hid (zad HB.out g1)
 have G01 := Lib.hid g1
 have z1 := zae (zab g1 H0.out) (za5 _)
 clear g1
 go_wp2_with fail
 refine (z4b _ _ _).mono ?_
 rintro e w2 ⟨rfl, hw2⟩
 obtain ⟨hB2, hT2, hC2, hz2⟩ := zdz w1 _ _ _ _ w2 hw2
 have HB2 := Lib.hid hB2
 have HT2 := Lib.hid hT2
 have HC2 := Lib.hid hC2
 have HZ2 := Lib.hid hz2
 clear hw2 hB2 hT2 hC2 hz2 z1
 go_wp2_with fail
 refine (wpIn_wide (n := 3)).1 ?_
 have hs1 : w.heap.size + 3 ≤ w1.heap.size := by have := G01.out.size; have := HZ.out; omega
 have HS1 := Lib.hid hs1
 clear hs1
 refine wpIn_rangeFunc_ownF (w0 := w2) rfl (by omega) (gf := 90) (lb := #[.pointer (some ⟨w1.heap.size + 1, 0, none⟩), .pointer (some ⟨w1.heap.size, 0, none⟩)]) rfl trivial (za8 Tryz.func90 (by kernel_rfl) (by kernel_rfl))
  (zs5 Fence.wide 2 trivial rfl (by omega) (w1.heap.size + 1) w1.heap.size b1 o1 n cp w2.heap.size l k w2 HM.out HL.out (by have := HL.out; have := HK.out; omega)
   (zaq HC2.out).1 HT2.out (zhw (zad G1.out HB2.out) HX.out) (by have := HZ2.out; omega) (by have := HZ2.out; omega) (by have := HQ.out; have := HS1.out; have := HZ2.out; omega) (Nat.le_refl _))
  belowK_t (belowK_b (Nat.le_refl _)) (Below.refl _ _) (fun _ => rfl)
  (fun pre W => (∀ y ∈ pre, ((y.1 : Nat) : Int) ≠ i) ∧ Below w2.heap.size w2 W)
  (fun c pre W => (((c = .ret ∧ ∃ y ∈ pre, ((y.1 : Nat) : Int) = i) ∧ W.cell? ⟨w.heap.size + 1 + 1, 0, none⟩ = some (.bool true)) ∧ Below w.heap.size w W))
  (ycg _ (Nat.le_refl _)) (fun c => yje (w := w) (B := w2.heap.size) (fun pre : List (Ln l k) => c = .ret ∧ ∃ y ∈ pre, ((y.1 : Nat) : Int) = i) _ (fun _ => .bool true) (by have := HZ2.out; have := HS1.out; omega))
  ⟨fun _ h => absurd h List.not_mem_nil, Below.refl _ _⟩ ?a1 ?assign ?body ?done ?stop
 case assign =>
  intro lo x W K hK
  gi_wp2
  exact hK
 case body =>
  rintro lo pre x W ⟨hp, hB⟩ hlen
  have HP := Lib.hid hp
  have HBW := Lib.hid hB
  have c1 := (zaq (zab (zad G01.out (zad HB2.out hB)) H1.out)).1
  obtain ⟨c2, c3⟩ := zaq (zab (zad G01.out (zad HB2.out hB)) H2.out)
  have HC2' : Hid (W.cell? ⟨w.heap.size + 1 + 1, 0, none⟩ = some (.bool false) ∧ W.frozen? ⟨w.heap.size + 1 + 1, 0, none⟩ = false) := ⟨c2, c3⟩
  have HBw : Hid (Below w.heap.size w W) := zad G1.out (zad HB2.out hB)
  clear hp hB c2 c3 hlen
  obtain ⟨c2, c3⟩ := HC2'.out
  by_cases he : ((x.1 : Nat) : Int) = i
  ·
   have t1 : (((x.1 : Nat) : Int) == i) = true := by simpa using he
   have HE := Lib.hid he
   clear he
   gi_wp2
   exact ⟨KeepsOthers.setCell _ _ _, ⟨⟨rfl, x, by simp, HE.out⟩, World.cell?_setCell_same' _ _ _ (by rw [HC2'.out.1]; rfl)⟩, HBw.out.setCell (p := ⟨w.heap.size + 1 + 1, 0, none⟩) (by simp; omega) _⟩
  ·
   have t1 : (((x.1 : Nat) : Int) == i) = false := by simpa using he
   have HE := Lib.hid he
   clear he
   gi_wp2
   exact ⟨KeepsOthers.refl _, Below.refl _ _, fun y hy => by
    rcases List.mem_append.1 hy with h | h
    ·
     exact HP.out y h
    ·
     rw [List.mem_singleton] at h; subst h; exact HE.out, HBW.out⟩
 case done =>
  rintro D ys W hD hys ⟨hp, hB⟩ hK
  have hX : r = false := by
   rw [HR.out, Bool.and_eq_false_iff, ← Bool.not_eq_true]
   by_cases h0 : 0 ≤ i
   ·
    right
    rw [← Bool.not_eq_true]
    intro ha
    have hin := (zo3 HM.out i.toNat k HK.out).2 ha
    rw [← hys] at hin
    obtain ⟨y, hy, e⟩ := List.mem_map.1 hin
    exact hp y hy (by omega)
   ·
    left; simpa using h0
  have HX' := Lib.hid hX
  have HKD := Lib.hid hK
  have HBW := Lib.hid hB
  have hc : W.cell? ⟨w.heap.size + 1 + 1, 0, none⟩ = some (.bool false) ∧ W.frozen? ⟨w.heap.size + 1 + 1, 0, none⟩ = false := zaq (zab (zad G01.out (zad HB2.out hB)) H2.out)
  have HC := Lib.hid hc
  obtain ⟨c2, c3⟩ := hc
  have HBw : Hid (Below w.heap.size w W) := zad G1.out (zad HB2.out hB)
  clear hX hp hB hK hys
  go_wp2_with fail
  have hK' := (KeepsOthers.setCell W ⟨w.heap.size + 1 + 1, 0, none⟩ (.bool false)).same D _ HKD.out rfl
  have hs := zyv hK' (World.cell?_setCell_same' W ⟨w.heap.size + 1 + 1, 0, none⟩ (.bool false) (by rw [HC.out.1]; rfl))
  exact zm4 (v := .bool false) hK' ⟨by simp [results, Tryz.results20, go_sem, hs], by rw [HX'.out], zfq hK' (HBw.out.setCell (p := ⟨w.heap.size + 1 + 1, 0, none⟩) (by simp; omega) _) (by have := HZ2.out; have := HS1.out; omega)⟩
 case stop =>
  rintro D c pre W hD hpre ⟨⟨⟨rfl, y, hy, he⟩, hc⟩, hB⟩ hK
  have hX : r = true := by
   rw [HR.out, Bool.and_eq_true, decide_eq_true_iff]
   refine ⟨by omega, (zo3 HM.out i.toNat k HK.out).1 ?_⟩
   rw [show i.toNat = y.1 by omega]
   exact hpre.subset (List.mem_map_of_mem hy)
  have HX' := Lib.hid hX
  have HBW := Lib.hid hB
  have HKD := Lib.hid hK
  have hs := zyv hK hc
  have HD := Lib.hid hD
  clear hX hB hy he hpre
  gi_wp2
  exact zm4 (v := .bool true) HKD.out ⟨by simp [results, Tryz.results20, go_sem, hs], by rw [HX'.out], zfq HKD.out HBW.out (by have := HZ2.out; have := HS1.out; have := HD.out; omega)⟩
theorem zpv (s : SlV) (l : List Nd) (i k : Int) (w : World) (h : SlE Ene w (sv s) l) :
  Calls Tryz.prog 20 #[.agg (tr ⟨s⟩), .int .i64 i, .int .i64 k] w fun e w' => e = .returned (.bool (zdh l i k)) ∧ Below w.heap.size w w' := by
 by_cases hk : isT l k = true
 ·
  obtain ⟨hm, hk0, hk1⟩ := zkn.1 hk
  obtain ⟨k', rfl⟩ : ∃ k' : Nat, k = k' := ⟨k.toNat, by omega⟩
  have e : zdh l i (k' : Int) = (decide (0 ≤ i) && zbn l i.toNat k') := by
   unfold zdh
   rw [hk, Int.toNat_natCast, Bool.and_true]
   by_cases h0 : 0 ≤ i
   ·
    rw [decide_eq_true h0, Bool.true_and]
    by_cases ha : zbn l i.toNat k' = true
    ·
     have := zi9 hm i.toNat k' (by omega) ha
     rw [ha, Bool.and_true]
     exact zkn.2 ⟨hm, h0, by omega⟩
    ·
     rw [Bool.not_eq_true] at ha
     rw [ha, Bool.and_false]
   ·
    have : isT l i = false := by
     rw [← Bool.not_eq_true, zkn]
     exact fun hh => h0 hh.2.1
    rw [this, decide_eq_false h0]
  rw [e]
  exact zwg s l i k' w h hm (by omega)
 ·
  have hk' : isT l k = false := by simpa using hk
  have e : zdh l i k = false := by unfold zdh; rw [hk', Bool.and_false, Bool.false_and]
  rw [e]
  exact zx7 s l i k w h hk'
end
theorem zh6 : ∀ args w, (callFunc 15 args).run Tryz.prog w = .ok (.enter 15 args) w := za8 Tryz.func15 (by kernel_rfl) (by kernel_rfl)
theorem zml : ∀ args w, (callFunc 20 args).run Tryz.prog w = .ok (.enter 20 args) w := za8 Tryz.func20 (by kernel_rfl) (by kernel_rfl)
theorem zsv (s : SlV) (l : List Nd) (c d : Ck) (w : World) (h : SlE Ene w (sv s) l) :
  Calls Tryz.prog 59 #[.agg (tr ⟨s⟩), .agg (cc c), .agg (cc d)] w fun e w' => e = .returned (.bool (zck l c d)) ∧ Below w.heap.size w w' := by
 have HF := Lib.hid (fun r W (g : Below w.heap.size w W) => zge s l r W (zac g h))
 have HA := Lib.hid (fun W (g : Below w.heap.size w W) => zpv s l (za2 l d.root) (za2 l c.root) W (zac g h))
 obtain ⟨r, hr⟩ : ∃ r, r = zck l c d := ⟨_, rfl⟩
 rw [← hr]
 rw [show zdh l (za2 l d.root) (za2 l c.root) = r from hr.symm] at HA
 have HFc := Lib.hid (HF.out c.root)
 have HFd := Lib.hid (HF.out d.root)
 generalize za2 l c.root = x at *
 generalize za2 l d.root = y at *
 obtain ⟨W0, hW0⟩ : ∃ W0, W0 = ((w.alloc (.cells (tr ⟨s⟩) 28)).alloc (.cells (cc c) 37)).alloc (.cells (cc d) 37) := ⟨_, rfl⟩
 obtain ⟨hB, k0, k1, k2, hz0⟩ := zfd w _ _ _ _ _ _ W0 hW0
 have HB := Lib.hid hB
 have HW := Lib.hid hW0
 have z0 := (zaz k0).2.1
 have z1 := zej k1
 have z2 := zej k2
 clear hW0 h hB k0 k1 k2 hz0 hr HF
 go_enter Tryz.func59, Tryz.ntmps59
 go_upto_region 1 with fail
 rw [← HW.out]
 have L0 := fun p : Wd W0.drew => zd8 z0 (by decide) p
 have L1 := fun p : Wd W0.drew => zd8 z1 (by decide) p
 have L2 := fun p : Wd W0.drew => zd8 z2 (by decide) p
 clear z0 z1 z2
 refine zbj [4, 8, 9] (by kernel_rfl) (by kernel_rfl) (by kernel_rfl) ?_
 repeat (first | (refine zap rfl rfl _ zax ?_; (first | go_big_quiet_step (fail) | quiet_step (fail)); refine wpQuiet_nil ?_) | refine zcd rfl ?_)
 refine zbl rfl rfl rfl zh6 #[.agg (tr ⟨s⟩), .agg (rc d.root)] rfl ?_
 refine (HFd.out _ (zad HB.out (zar (Below.refl _ _) 1))).mono ?_
 rintro e u ⟨rfl, g⟩
 refine ⟨_, rfl, g, ?_⟩
 simp only [Act.put, List.setIfInBounds_toArray, List.set_cons_zero, List.set_cons_succ]
 have G : Hid (Below W0.heap.size W0 u) := zad (zar (Below.refl _ _) 1) g
 clear g
 repeat (first | (refine zap rfl rfl _ zax ?_; (first | go_big_quiet_step (fail) | quiet_step (fail)); refine wpQuiet_nil ?_) | refine zcd rfl ?_)
 refine zbl rfl rfl rfl zh6 #[.agg (tr ⟨s⟩), .agg (rc c.root)] rfl ?_
 refine (HFc.out _ (zad HB.out G.out)).mono ?_
 rintro e u2 ⟨rfl, g⟩
 refine ⟨_, rfl, g, ?_⟩
 simp only [Act.put, List.setIfInBounds_toArray, List.set_cons_zero, List.set_cons_succ]
 replace G : Hid (Below W0.heap.size W0 u2) := zad G.out g
 clear g
 repeat (first | (refine zap rfl rfl _ zax ?_; (first | go_big_quiet_step (fail) | quiet_step (fail)); refine wpQuiet_nil ?_) | refine zcd rfl ?_)
 refine zbl rfl rfl rfl zml #[.agg (tr ⟨s⟩), .int .i64 y, .int .i64 x] rfl ?_
 refine (HA.out _ (zad HB.out G.out)).mono ?_
 rintro e u3 ⟨rfl, g⟩
 refine ⟨_, rfl, g, ?_⟩
 simp only [Act.put, List.setIfInBounds_toArray, List.set_cons_zero, List.set_cons_succ]
 replace G : Hid (Below W0.heap.size W0 u3) := zad G.out g
 clear g
 repeat (first | (refine zap rfl rfl _ zax ?_; (first | go_big_quiet_step (fail) | quiet_step (fail)); refine wpQuiet_nil ?_) | refine zcd rfl ?_)
 refine zcw ?_
 clear L0 L1 L2
 go_wp2_with fail
 go_ret
 exact ⟨rfl, zad HB.out G.out⟩
section
open Go.Shelf
attribute [local go_sem] Oper.semAt_some
@[local go_sem ↓] theorem yob {P : Program} (l : Option Nat) (ρ : Operand → Value) (o : Oper) (w : World) (h : ∀ c, o.op ≠ .defer c) : (Oper.semAt l ρ o).run P w = (execOp ρ o).run P w := by rw [Oper.semAt_eq l ρ o h]
theorem ydw (m : Int) (w : World) :
  Calls Tryz.prog 165 #[.int .u64 m] w fun e w' => e = .returned (.func (.func 167) #[] #[.pointer (some ⟨w.heap.size, 0, none⟩)]) ∧ w' = w.alloc (.cells #[.int .u64 m] 30) := by
 go_enter Tryz.func165, Tryz.ntmps165
 go_wp2_with fail
 go_ret
 exact ⟨rfl, rfl⟩
def upT (mask : UInt64) (n : Nat) : List Nat := (List.range n).filter (hasB mask)
theorem yan {mask : UInt64} {n : Nat} (h : hasB mask n = true) : upT mask (n + 1) = upT mask n ++ [n] := by unfold upT; rw [List.range_succ, List.filter_append]; simp [h]
theorem ydi {mask : UInt64} {n : Nat} (h : hasB mask n = false) : upT mask (n + 1) = upT mask n := by unfold upT; rw [List.range_succ, List.filter_append]; simp [h]
theorem yaz (mask : UInt64) (n : Nat) : ∀ d, upT mask n <+: upT mask (n + d)
 | 0 => List.prefix_refl _
 | d + 1 => by
  have ih := yaz mask n d
  cases h : hasB mask (n + d)
  ·
   rw [show n + (d + 1) = n + d + 1 from rfl, ydi h]; exact ih
  ·
   rw [show n + (d + 1) = n + d + 1 from rfl, yan h]; exact ih.trans (List.prefix_append _ _)
theorem z1i {mask : UInt64} {n : Nat} (h : n ≤ 64) : upT mask n <+: whoT mask := by
 have := yaz mask n (64 - n)
 rwa [show n + (64 - n) = 64 by omega] at this
theorem z5h (d : Nat) (hd : 1 ≤ d) (mask : UInt64) (s0 D bt : Nat) (w : World) (hs0 : s0 ≤ w.heap.size) (hDb : D < bt) (t0 : w.heap[bt]? = some (.cells #[.int .u64 (mask.toNat : Int)] 30 (0, 0))) :
  SeqStopsK Fence.wide d Tryz.prog 167 #[.pointer (some ⟨bt, 0, none⟩)] (fun x : { x : Nat // x ∈ whoT mask } => #[Value.int .i64 (x.1 : Int)]) (But s0 w.heap.size D) (fun ys => ys.map Subtype.val = whoT mask) (fun pre => pre.map Subtype.val <+: whoT mask) (whoT mask).length w := by
 intro lo J Jx W hW hAJ _ hY hJ0
 have hsz : ∀ {k : Nat} {o : Obj}, w.heap[k]? = some o → k < w.heap.size := fun e => (Array.getElem?_eq_some_iff.1 e).1
 have HT : Hid (∀ W', But s0 w.heap.size D w W' → W'.heap[bt]? = some (.cells #[.int .u64 (mask.toNat : Int)] 30 (0, 0))) := fun W' g => g.blk (hsz t0) (by omega) t0
 have HG0 : Hid (But s0 w.heap.size D w W) := But.of_below hW hs0
 have HGZ : Hid (∀ {W1 W' : World}, w.heap.size ≤ W1.heap.size → But s0 w.heap.size D w W1 → Below W1.heap.size W1 W' → But s0 w.heap.size D w W') := fun hs g k => g.then k hs0 hs
 have HBT : Hid (∀ {A B C : World}, But s0 w.heap.size D A B → But s0 w.heap.size D B C → But s0 w.heap.size D A C) := fun h k => h.trans k
 have HWs : Hid (w.heap.size ≤ W.heap.size) := hW.size
 have HBS : Hid (∀ W', But s0 w.heap.size D w W' → w.heap.size ≤ W'.heap.size) := fun W' g => by
  have := (Array.getElem?_eq_some_iff.1 t0).1
  exact Nat.le_of_not_lt fun hlt => by
   by_cases e : w.heap.size - 1 = D
   ·
    omega
   ·
    have k := g.block (w.heap.size - 1) (by omega) e
    rw [Array.getElem?_eq_none (by omega), Array.getElem?_eq_getElem (by omega)] at k
    cases k
 have HAJ : Hid (∀ pre W1 W', J pre W1 → Below W1.heap.size W1 W' → J pre W') := fun pre W1 W' hj g => hAJ pre W1 W' none hj (zbt g) (fun r e => by cases e)
 have HY := Lib.hid hY
 have HJ0 := Lib.hid hJ0
 have HB := Lib.hid (fun (v : Int) W => zk5 v W)
 have HM : Hid (∀ j : Nat, j < 64 → bits .and .u64 (mask.toNat : Int) (bitN (j : Int) : Int) = ((mask.toNat &&& 2 ^ j : Nat) : Int)) := fun j h => ybs mask h
 have HH : Hid (∀ j : Nat, (((mask.toNat &&& 2 ^ j : Nat) : Int) != 0) = hasB mask j) := fun j => yc9 mask j
 clear hsz hY hJ0 hW hAJ t0 hDb hs0
 obtain ⟨m, hm⟩ : ∃ m, m = (mask.toNat : Int) := ⟨_, rfl⟩
 rw [← hm] at HT HM
 clear hm
 generalize But s0 w.heap.size D = BU at *
 have hmix : Tryz.prog.follows .mixedOrders = true := by kernel_rfl
 refine callsIn_of_wp Tryz.func167 rfl trivial ?_ rfl
 simp only [Tryz.ntmps167, List.size_toArray, List.length_cons, List.length_nil, Nat.reduceAdd, Nat.reduceSub, Array.replicate_succ, Array.replicate_zero, List.push_toArray, List.append_toArray, List.nil_append, List.cons_append]
 gi_wp2
 gi_loopw [4] (fun v wr => ∃ (pre : List { x : Nat // x ∈ whoT mask }) (j : Nat), v = .int .i64 (j : Int) ∧ j ≤ 64 ∧ pre.map Subtype.val = upT mask j ∧ BU w wr ∧ J pre wr) (fun v _ => 64 - (intOf v).toNat)
 case atStart => exact ⟨[], 0, rfl, Nat.zero_le _, rfl, HG0.out, HJ0.out⟩
 case round =>
  obtain ⟨pre, j, rfl, hj, hpre, hg, hjj⟩ := hrel
  have HG := Lib.hid hg
  have HJ := Lib.hid hjj
  have HE := Lib.hid hpre
  clear hg hjj hpre
  by_cases hlt : j < 64
  ·
   have d0 : decide ((j : Int) < 64) = true := decide_eq_true (by omega)
   have d0' : decide (j < 64) = true := decide_eq_true hlt
   have u1 : (j : Int) + 1 < 10000 := by omega
   have HLT := Lib.hid hlt
   obtain ⟨r, hr⟩ : ∃ r, r = hasB mask j := ⟨_, rfl⟩
   obtain ⟨x, hx⟩ : ∃ x, x = ((mask.toNat &&& 2 ^ j : Nat) : Int) := ⟨_, rfl⟩
   obtain ⟨b, hb⟩ : ∃ b, b = (bitN (j : Int) : Int) := ⟨_, rfl⟩
   have hA := HM.out j hlt
   have hA2 := HH.out j
   have HBj := Lib.hid (fun W => HB.out (j : Int) W)
   rw [← hb, ← hx] at hA
   rw [← hx, ← hr] at hA2
   rw [← hb] at HBj
   have HR := Lib.hid hr
   have z0 := (zaq (HT.out _ HG.out)).1
   clear hlt hx hb hr
   cases r
   ·
    gi_wp2
    refine wpIn_region_any (by kernel_rfl) ?_
    try (change wpAnyIn _ _ _ _ _ _ _ _ _ (World.drew _))
    refine wpAnyIn_take (i := 1) (v := ?_) rfl rfl (by kernel_rfl) (by kernel_rfl) (by kernel_rfl) (fun _ _ _ h => h) ⟨Or.inl ⟨by rfl, ?_⟩, fun _ => rfl⟩ ?_
    case refine_2 => intro w; go_simp; rfl
    refine wpAnyIn_ready (rs := [0, 2]) (by kernel_rfl) (by simp) ?_
    refine AllReadyIn.cons rfl (fun K hK => ?_) (AllReadyIn.cons rfl (fun K hK => ?_) AllReadyIn.nil)
    ·
     go_simp
     refine hK _ _ ?_
     clear hK K
     refine wpAnyIn_ready (rs := [2]) (by kernel_rfl) (by simp) (AllReadyIn.cons rfl (fun K hK => ?_) AllReadyIn.nil)
     go_simp
     refine ⟨trivial, (callsIn_wide.2 (HBj.out _)).mono ?_⟩
     rintro e W1 ⟨rfl, g1⟩
     have HG1 := Lib.hid (HGZ.out (HBS.out _ HG.out) HG.out (zad (zar (Below.refl _ _) 1) g1))
     have HJ1 := Lib.hid (HAJ.out _ _ _ HJ.out (zad (zar (Below.refl _ _) 1) g1))
     clear g1
     refine hK _ _ ?_
     clear hK K z0
     refine wpAnyIn_take (i := 3) (v := ?_) rfl rfl (by kernel_rfl) (by kernel_rfl) (by kernel_rfl) (fun _ _ _ h => h) ⟨Or.inl ⟨by rfl, ?_⟩, fun _ => rfl⟩ ?_
     case refine_2 => intro w; go_simp; rfl
     refine wpAnyIn_take (i := 4) (v := ?_) rfl rfl (by kernel_rfl) (by kernel_rfl) (by kernel_rfl) (fun _ _ _ h => h) ⟨Or.inl ⟨by rfl, ?_⟩, fun _ => rfl⟩ ?_
     case refine_2 => intro w; go_simp; rfl
     refine wpAnyIn_take (i := 5) (v := ?_) rfl rfl (by kernel_rfl) (by kernel_rfl) (by kernel_rfl) (fun _ _ _ h => h) ⟨Or.inl ⟨by rfl, ?_⟩, fun _ => rfl⟩ ?_
     case refine_2 => intro w; go_simp; rfl
     refine wpAnyIn_take (i := 6) (v := undef) rfl rfl (by kernel_rfl) (by kernel_rfl) (by kernel_rfl) (fun _ _ _ h => h) ⟨Or.inr ⟨by rfl, rfl⟩, fun _ => rfl⟩ ?_
     refine wpAnyIn_take (i := 7) (v := undef) rfl rfl (by kernel_rfl) (by kernel_rfl) (by kernel_rfl) (fun _ _ _ h => h) ⟨Or.inr ⟨by rfl, rfl⟩, fun _ => rfl⟩ ?_
     refine wpAnyIn_ready (rs := [8]) (by kernel_rfl) (by simp) (AllReadyIn.cons rfl (fun K hK => ?_) AllReadyIn.nil)
     go_simp
     refine ⟨fun _ _ => trivial, ?_⟩
     refine hK _ _ ?_
     clear hK K
     refine wpAnyIn_take (i := 9) (v := undef) rfl rfl (by kernel_rfl) (by kernel_rfl) (by kernel_rfl) (fun _ _ _ h => h) ⟨Or.inr ⟨by rfl, rfl⟩, fun _ => rfl⟩ ?_
     refine wpAnyIn_take (i := 10) (v := ?_) rfl rfl (by kernel_rfl) (by kernel_rfl) (by kernel_rfl) (fun _ _ _ h => h) ⟨Or.inl ⟨by rfl, ?_⟩, fun _ => rfl⟩ ?_
     case refine_2 => intro w; go_simp; rfl
     refine wpAnyIn_done (by kernel_rfl) ?_ _
     gi_wp2
     go_roundw
     case rel => exact ⟨pre, j + 1, by go_num, HLT.out, by rw [ydi HR.out.symm]; exact HE.out, HG1.out, HJ1.out⟩
     case measure => simp [intOf]; have := HLT.out; omega
    ·
     go_simp
     refine ⟨trivial, (callsIn_wide.2 (HBj.out _)).mono ?_⟩
     rintro e W1 ⟨rfl, g1⟩
     have HG1 := Lib.hid (HGZ.out (HBS.out _ HG.out) HG.out (zad (zar (Below.refl _ _) 1) g1))
     have HJ1 := Lib.hid (HAJ.out _ _ _ HJ.out (zad (zar (Below.refl _ _) 1) g1))
     have z1 := (zaq (HT.out _ HG1.out)).1
     clear g1
     refine hK _ _ ?_
     clear hK K z0
     refine wpAnyIn_ready (rs := [0]) (by kernel_rfl) (by simp) (AllReadyIn.cons rfl (fun K hK => ?_) AllReadyIn.nil)
     go_simp
     refine hK _ _ ?_
     clear hK K z1
     refine wpAnyIn_take (i := 3) (v := ?_) rfl rfl (by kernel_rfl) (by kernel_rfl) (by kernel_rfl) (fun _ _ _ h => h) ⟨Or.inl ⟨by rfl, ?_⟩, fun _ => rfl⟩ ?_
     case refine_2 => intro w; go_simp; rfl
     refine wpAnyIn_take (i := 4) (v := ?_) rfl rfl (by kernel_rfl) (by kernel_rfl) (by kernel_rfl) (fun _ _ _ h => h) ⟨Or.inl ⟨by rfl, ?_⟩, fun _ => rfl⟩ ?_
     case refine_2 => intro w; go_simp; rfl
     refine wpAnyIn_take (i := 5) (v := ?_) rfl rfl (by kernel_rfl) (by kernel_rfl) (by kernel_rfl) (fun _ _ _ h => h) ⟨Or.inl ⟨by rfl, ?_⟩, fun _ => rfl⟩ ?_
     case refine_2 => intro w; go_simp; rfl
     refine wpAnyIn_take (i := 6) (v := undef) rfl rfl (by kernel_rfl) (by kernel_rfl) (by kernel_rfl) (fun _ _ _ h => h) ⟨Or.inr ⟨by rfl, rfl⟩, fun _ => rfl⟩ ?_
     refine wpAnyIn_take (i := 7) (v := undef) rfl rfl (by kernel_rfl) (by kernel_rfl) (by kernel_rfl) (fun _ _ _ h => h) ⟨Or.inr ⟨by rfl, rfl⟩, fun _ => rfl⟩ ?_
     refine wpAnyIn_ready (rs := [8]) (by kernel_rfl) (by simp) (AllReadyIn.cons rfl (fun K hK => ?_) AllReadyIn.nil)
     go_simp
     refine ⟨fun _ _ => trivial, ?_⟩
     refine hK _ _ ?_
     clear hK K
     refine wpAnyIn_take (i := 9) (v := undef) rfl rfl (by kernel_rfl) (by kernel_rfl) (by kernel_rfl) (fun _ _ _ h => h) ⟨Or.inr ⟨by rfl, rfl⟩, fun _ => rfl⟩ ?_
     refine wpAnyIn_take (i := 10) (v := ?_) rfl rfl (by kernel_rfl) (by kernel_rfl) (by kernel_rfl) (fun _ _ _ h => h) ⟨Or.inl ⟨by rfl, ?_⟩, fun _ => rfl⟩ ?_
     case refine_2 => intro w; go_simp; rfl
     refine wpAnyIn_done (by kernel_rfl) ?_ _
     gi_wp2
     go_roundw
     case rel => exact ⟨pre, j + 1, by go_num, HLT.out, by rw [ydi HR.out.symm]; exact HE.out, HG1.out, HJ1.out⟩
     case measure => simp [intOf]; have := HLT.out; omega
   ·
    have HIN : Hid (j ∈ whoT mask) := yns.2 ⟨HLT.out, HR.out.symm⟩
    have HUP : Hid (upT mask (j + 1) = upT mask j ++ [j]) := yan HR.out.symm
    have HLN : Hid (pre.length < (whoT mask).length) := by
     show pre.length < _
     have h1 := (z1i (mask := mask) (n := j + 1) HLT.out).length_le
     have h2 := congrArg List.length HE.out
     rw [List.length_map] at h2
     rw [HUP.out, List.length_append, ← h2] at h1
     exact h1
    gi_wp2
    refine wpIn_region_any (by kernel_rfl) ?_
    try (change wpAnyIn _ _ _ _ _ _ _ _ _ (World.drew _))
    refine wpAnyIn_take (i := 1) (v := ?_) rfl rfl (by kernel_rfl) (by kernel_rfl) (by kernel_rfl) (fun _ _ _ h => h) ⟨Or.inl ⟨by rfl, ?_⟩, fun _ => rfl⟩ ?_
    case refine_2 => intro w; go_simp; rfl
    refine wpAnyIn_ready (rs := [0, 2]) (by kernel_rfl) (by simp) ?_
    refine AllReadyIn.cons rfl (fun K hK => ?_) (AllReadyIn.cons rfl (fun K hK => ?_) AllReadyIn.nil)
    ·
     go_simp
     refine hK _ _ ?_
     clear hK K
     refine wpAnyIn_ready (rs := [2]) (by kernel_rfl) (by simp) (AllReadyIn.cons rfl (fun K hK => ?_) AllReadyIn.nil)
     go_simp
     refine ⟨trivial, (callsIn_wide.2 (HBj.out _)).mono ?_⟩
     rintro e W1 ⟨rfl, g1⟩
     have HG1 := Lib.hid (HGZ.out (HBS.out _ HG.out) HG.out (zad (zar (Below.refl _ _) 1) g1))
     have HJ1 := Lib.hid (HAJ.out _ _ _ HJ.out (zad (zar (Below.refl _ _) 1) g1))
     clear g1
     obtain ⟨fn, tmps, assign, body, hy, hR⟩ := HY.out pre ⟨j, HIN.out⟩ W1 HJ1.out HLN.out
     have HRR := Lib.hid hR
     clear hR
     refine hK _ _ ?_
     clear hK K z0
     refine wpAnyIn_take (i := 3) (v := ?_) rfl rfl (by kernel_rfl) (by kernel_rfl) (by kernel_rfl) (fun _ _ _ h => h) ⟨Or.inl ⟨by rfl, ?_⟩, fun _ => rfl⟩ ?_
     case refine_2 => intro w; go_simp; rfl
     refine wpAnyIn_take (i := 4) (v := ?_) rfl rfl (by kernel_rfl) (by kernel_rfl) (by kernel_rfl) (fun _ _ _ h => h) ⟨Or.inl ⟨by rfl, ?_⟩, fun _ => rfl⟩ ?_
     case refine_2 => intro w; go_simp; rfl
     refine wpAnyIn_take (i := 5) (v := ?_) rfl rfl (by kernel_rfl) (by kernel_rfl) (by kernel_rfl) (fun _ _ _ h => h) ⟨Or.inl ⟨by rfl, ?_⟩, fun _ => rfl⟩ ?_
     case refine_2 => intro w; go_simp; rfl
     refine wpAnyIn_take (i := 6) (v := ?_) rfl rfl (by kernel_rfl) (by kernel_rfl) (by kernel_rfl) (fun _ _ _ h => h) ⟨Or.inl ⟨by rfl, ?_⟩, fun _ => rfl⟩ ?_
     case refine_2 => intro w; go_simp; rfl
     refine wpAnyIn_take (i := 7) (v := ?_) rfl rfl (by kernel_rfl) (by kernel_rfl) (by kernel_rfl) (fun _ _ _ h => h) ⟨Or.inl ⟨by rfl, ?_⟩, fun _ => rfl⟩ ?_
     case refine_2 => intro w; go_simp; rfl
     refine wpAnyIn_ready (rs := [8]) (by kernel_rfl) (by simp) (AllReadyIn.cons rfl (fun K hK => ?_) AllReadyIn.nil)
     go_simp
     refine HRR.out.mono ?_
     rintro e W3 (⟨rfl, hJ3, hk3⟩ | ⟨rfl, hJx3⟩)
     ·
      have HG3 := Lib.hid (HBT.out HG1.out hk3)
      have HJ3 := Lib.hid hJ3
      clear hJ3 hk3
      refine hK _ _ ?_
      clear hK K
      refine wpAnyIn_take (i := 9) (v := ?_) rfl rfl (by kernel_rfl) (by kernel_rfl) (by kernel_rfl) (fun _ _ _ h => h) ⟨Or.inl ⟨by rfl, ?_⟩, fun _ => rfl⟩ ?_
      case refine_2 => intro w; go_simp; rfl
      refine wpAnyIn_take (i := 10) (v := ?_) rfl rfl (by kernel_rfl) (by kernel_rfl) (by kernel_rfl) (fun _ _ _ h => h) ⟨Or.inl ⟨by rfl, ?_⟩, fun _ => rfl⟩ ?_
      case refine_2 => intro w; go_simp; rfl
      refine wpAnyIn_done (by kernel_rfl) ?_ _
      gi_wp2
      go_roundw
      case rel => exact ⟨pre ++ [⟨j, HIN.out⟩], j + 1, by go_num, HLT.out, by rw [HUP.out, List.map_append, HE.out]; rfl, HG3.out, HJ3.out⟩
      case measure => simp [intOf]; have := HLT.out; omega
     ·
      have HJ3 := Lib.hid hJx3
      clear hJx3
      refine hK _ _ ?_
      clear hK K
      refine wpAnyIn_take (i := 9) (v := ?_) rfl rfl (by kernel_rfl) (by kernel_rfl) (by kernel_rfl) (fun _ _ _ h => h) ⟨Or.inl ⟨by rfl, ?_⟩, fun _ => rfl⟩ ?_
      case refine_2 => intro w; go_simp; rfl
      refine wpAnyIn_take (i := 10) (v := ?_) rfl rfl (by kernel_rfl) (by kernel_rfl) (by kernel_rfl) (fun _ _ _ h => h) ⟨Or.inl ⟨by rfl, ?_⟩, fun _ => rfl⟩ ?_
      case refine_2 => intro w; go_simp; rfl
      refine wpAnyIn_done (by kernel_rfl) ?_ _
      gi_wp2
      refine bodyPost_ret (results_none rfl _ _ _) rfl ?_
      exact ⟨⟨_, rfl⟩, .inr ⟨pre ++ [⟨j, HIN.out⟩], by show List.map Subtype.val _ <+: _; rw [List.map_append, HE.out]; exact HUP.out ▸ z1i (mask := mask) (n := j + 1) HLT.out, HJ3.out⟩⟩
    ·
     go_simp
     refine ⟨trivial, (callsIn_wide.2 (HBj.out _)).mono ?_⟩
     rintro e W1 ⟨rfl, g1⟩
     have HG1 := Lib.hid (HGZ.out (HBS.out _ HG.out) HG.out (zad (zar (Below.refl _ _) 1) g1))
     have HJ1 := Lib.hid (HAJ.out _ _ _ HJ.out (zad (zar (Below.refl _ _) 1) g1))
     have z1 := (zaq (HT.out _ HG1.out)).1
     clear g1
     obtain ⟨fn, tmps, assign, body, hy, hR⟩ := HY.out pre ⟨j, HIN.out⟩ W1 HJ1.out HLN.out
     have HRR := Lib.hid hR
     clear hR
     refine hK _ _ ?_
     clear hK K z0
     refine wpAnyIn_ready (rs := [0]) (by kernel_rfl) (by simp) (AllReadyIn.cons rfl (fun K hK => ?_) AllReadyIn.nil)
     go_simp
     refine hK _ _ ?_
     clear hK K z1
     refine wpAnyIn_take (i := 3) (v := ?_) rfl rfl (by kernel_rfl) (by kernel_rfl) (by kernel_rfl) (fun _ _ _ h => h) ⟨Or.inl ⟨by rfl, ?_⟩, fun _ => rfl⟩ ?_
     case refine_2 => intro w; go_simp; rfl
     refine wpAnyIn_take (i := 4) (v := ?_) rfl rfl (by kernel_rfl) (by kernel_rfl) (by kernel_rfl) (fun _ _ _ h => h) ⟨Or.inl ⟨by rfl, ?_⟩, fun _ => rfl⟩ ?_
     case refine_2 => intro w; go_simp; rfl
     refine wpAnyIn_take (i := 5) (v := ?_) rfl rfl (by kernel_rfl) (by kernel_rfl) (by kernel_rfl) (fun _ _ _ h => h) ⟨Or.inl ⟨by rfl, ?_⟩, fun _ => rfl⟩ ?_
     case refine_2 => intro w; go_simp; rfl
     refine wpAnyIn_take (i := 6) (v := ?_) rfl rfl (by kernel_rfl) (by kernel_rfl) (by kernel_rfl) (fun _ _ _ h => h) ⟨Or.inl ⟨by rfl, ?_⟩, fun _ => rfl⟩ ?_
     case refine_2 => intro w; go_simp; rfl
     refine wpAnyIn_take (i := 7) (v := ?_) rfl rfl (by kernel_rfl) (by kernel_rfl) (by kernel_rfl) (fun _ _ _ h => h) ⟨Or.inl ⟨by rfl, ?_⟩, fun _ => rfl⟩ ?_
     case refine_2 => intro w; go_simp; rfl
     refine wpAnyIn_ready (rs := [8]) (by kernel_rfl) (by simp) (AllReadyIn.cons rfl (fun K hK => ?_) AllReadyIn.nil)
     go_simp
     refine HRR.out.mono ?_
     rintro e W3 (⟨rfl, hJ3, hk3⟩ | ⟨rfl, hJx3⟩)
     ·
      have HG3 := Lib.hid (HBT.out HG1.out hk3)
      have HJ3 := Lib.hid hJ3
      clear hJ3 hk3
      refine hK _ _ ?_
      clear hK K
      refine wpAnyIn_take (i := 9) (v := ?_) rfl rfl (by kernel_rfl) (by kernel_rfl) (by kernel_rfl) (fun _ _ _ h => h) ⟨Or.inl ⟨by rfl, ?_⟩, fun _ => rfl⟩ ?_
      case refine_2 => intro w; go_simp; rfl
      refine wpAnyIn_take (i := 10) (v := ?_) rfl rfl (by kernel_rfl) (by kernel_rfl) (by kernel_rfl) (fun _ _ _ h => h) ⟨Or.inl ⟨by rfl, ?_⟩, fun _ => rfl⟩ ?_
      case refine_2 => intro w; go_simp; rfl
      refine wpAnyIn_done (by kernel_rfl) ?_ _
      gi_wp2
      go_roundw
      case rel => exact ⟨pre ++ [⟨j, HIN.out⟩], j + 1, by go_num, HLT.out, by rw [HUP.out, List.map_append, HE.out]; rfl, HG3.out, HJ3.out⟩
      case measure => simp [intOf]; have := HLT.out; omega
     ·
      have HJ3 := Lib.hid hJx3
      clear hJx3
      refine hK _ _ ?_
      clear hK K
      refine wpAnyIn_take (i := 9) (v := ?_) rfl rfl (by kernel_rfl) (by kernel_rfl) (by kernel_rfl) (fun _ _ _ h => h) ⟨Or.inl ⟨by rfl, ?_⟩, fun _ => rfl⟩ ?_
      case refine_2 => intro w; go_simp; rfl
      refine wpAnyIn_take (i := 10) (v := ?_) rfl rfl (by kernel_rfl) (by kernel_rfl) (by kernel_rfl) (fun _ _ _ h => h) ⟨Or.inl ⟨by rfl, ?_⟩, fun _ => rfl⟩ ?_
      case refine_2 => intro w; go_simp; rfl
      refine wpAnyIn_done (by kernel_rfl) ?_ _
      gi_wp2
      refine bodyPost_ret (results_none rfl _ _ _) rfl ?_
      exact ⟨⟨_, rfl⟩, .inr ⟨pre ++ [⟨j, HIN.out⟩], by show List.map Subtype.val _ <+: _; rw [List.map_append, HE.out]; exact HUP.out ▸ z1i (mask := mask) (n := j + 1) HLT.out, HJ3.out⟩⟩
  ·
   obtain rfl : j = 64 := by omega
   clear hlt
   gi_wp2
   go_end0
   exact ⟨⟨_, rfl⟩, .inl ⟨pre, HE.out, HJ.out⟩⟩
end
end Go.Proofs.YtmihlihlpdkdcaaGreat
