import Derived.Test.YtkalofboioffiaaGreatQ16
import Derived.Maps.OwnSet
import Derived.Maps.OwnOps
namespace Go.Proofs.YtkalofboioffiaaGreat
open Go.RowKit
set_option maxRecDepth 200000
set_option maxHeartbeats 64000000
theorem u64_of {n : Int} (h : (Lit.int .u64 n).wf = true) : ∃ q : UInt64, n = (q.toNat : Int) := by
 have hb : (decide (IntKind.u64.min ≤ n) && decide (n ≤ IntKind.u64.max)) = true := h
 rw [Bool.and_eq_true, decide_eq_true_eq, decide_eq_true_eq, show IntKind.u64.min = 0 from rfl, show IntKind.u64.max = 18446744073709551615 from rfl] at hb
 refine ⟨UInt64.ofNat n.toNat, ?_⟩
 rw [UInt64.toNat_ofNat', Nat.mod_eq_of_lt (by simp; omega)]
 omega
theorem z7g (x : Sn) (s : Sg) (w : World) (h : LaidS w x s) :
  Calls Tryz.prog 19 #[.agg (sn x)] w fun e w' => e = .returned (.agg (nt ⟨s.ver, s.head, s.fin⟩)) ∧ Below w.heap.size w w' := by
 obtain ⟨W0, hW0⟩ : ∃ W0, W0 = (w.alloc (.cells (sn x) 40)).alloc (.cells (nt znt) 54) := ⟨_, rfl⟩
 obtain ⟨hB, q0, q1, _⟩ := zdb w _ _ _ _ W0 hW0
 have A : Hid (Sw w W0 w.heap.size x s) := ⟨q0, h.keep hB, hB⟩
 have MR : Hid (W0.heap[w.heap.size + 1]? = some (.cells (nt znt) 54 (0, 0))) := q1
 have HW := Lib.hid hW0
 clear hW0 hB q0 q1 h
 go_enter Tryz.func19, Tryz.ntmps19
 go_upto_region 1 with fail
 rw [← HW.out]
 have zv := A.out.zv
 have zh := A.out.zh
 have zf := A.out.zf
 have yw := za0 MR.out (zqx _)
 go_wp2_with fail
 exact bodyPost_ret (zax Tryz.isAgg54 Tryz.sizeOf54 _ 2 rfl _ _ _ _ rfl (zbh MR.out (zqx _) (zqx _))) rfl ⟨rfl, zap A.out.g (by omega)⟩
theorem z5u (p q : Option Addr) (n m cl ck : Nat) (w : World) (hl : n ≠ m) :
  Calls Tryz.prog 49 #[.slice p n cl, .slice q m ck] w fun e w' => e = .returned (.bool false) ∧ Below w.heap.size w w' := by
 have e1 : ((n : Int) == (m : Int)) = false := by simp; omega
 clear hl
 go_enter Tryz.func49, Tryz.ntmps49
 go_wp2_with fail
 go_ret
 exact ⟨rfl, Below.refl _ _⟩
theorem z5t (p q : Option Addr) (n cl ck : Nat) (l k : List Nd) (w : World) (h : SlE Ene w (.slice p n cl) l) (h' : SlE Ene w (.slice q n ck) k) (hl : l.length = n) (hk : k.length = n) (hn : n ≤ 1000) :
  Calls Tryz.prog 49 #[.slice p n cl, .slice q n ck] w fun e w' => e = .returned (.bool (decide (l = k))) ∧ Below w.heap.size w w' := by
 have HS := Lib.hid h
 have HT := Lib.hid h'
 have HL := Lib.hid hl
 have HK := Lib.hid hk
 have HN := Lib.hid hn
 obtain ⟨r, hr⟩ : ∃ r, r = decide (l = k) := ⟨_, rfl⟩
 rw [← hr]
 have HR := Lib.hid hr
 clear h h' hl hk hn hr
 go_enter Tryz.func49, Tryz.ntmps49
 go_wp2_with fail
 go_loopw [5, 13] (fun _ i wr => ∃ j : Nat, j ≤ n ∧ i = .int .i64 j ∧ (∀ x, x < j → nd l x = nd k x) ∧ Below w.heap.size w wr) (fun _ i _ => n - (intOf i).toNat)
 case atStart => exact ⟨0, Nat.zero_le _, rfl, fun x hx => absurd hx (Nat.not_lt_zero _), Below.refl _ _⟩
 case round =>
  obtain ⟨j, hj, rfl, hx, hb⟩ := hrel
  have HX := Lib.hid hx
  have HB := Lib.hid hb
  clear hx hb
  by_cases hlt : j < n
  ·
   have i0 : (0 : Int) ≤ (j : Int) := by omega
   have i1 : (j : Int) < (n : Int) := by omega
   have u1 : (j : Int) + 1 < 10000 := by have := HN.out; omega
   obtain ⟨b1, o1, c1, e1, _, q1, x1⟩ := zdm HS.out (by have := HL.out; omega)
   injection e1 with e2 _ e3
   subst e2 e3
   obtain ⟨b2, o2, c2, e1, _, q2, x2⟩ := zdm HT.out (by have := HK.out; omega)
   injection e1 with e2 _ e3
   subst e2 e3
   have y1 : ldA wr (.pointer (some ⟨b1, o1 + j * 35, none⟩)) 35 = some (ne (nd l j)) := keep HB.out (zjv x1 (by have := HL.out; omega))
   have y2 : ldA wr (.pointer (some ⟨b2, o2 + j * 35, none⟩)) 35 = some (ne (nd k j)) := keep HB.out (zjv x2 (by have := HK.out; omega))
   clear x1 x2 q1 q2
   by_cases he : nd l j = nd k j
   ·
    have HE := Lib.hid he
    rw [he] at y1
    clear he
    go_wp2_with fail
    go_quiet (fail)
    go_wp2_with fail
    go_roundw
    case rel => exact ⟨j + 1, by omega, by go_num, fun x hx => by
     rcases Nat.lt_succ_iff_lt_or_eq.1 hx with h | rfl
     ·
      exact HX.out x h
     ·
      exact HE.out, zak HB.out _⟩
    case measure => simp [intOf]; omega
   ·
    have hR : Hid (r = false) := by
     show r = false
     rw [HR.out, decide_eq_false_iff_not]
     intro e; exact he (by rw [e])
    have t1 : decide (nd l j = nd k j) = false := decide_eq_false he
    clear he
    go_wp2_with fail
    go_quiet (fail)
    go_wp2_with fail
    go_ret
    exact ⟨by rw [hR.out]; first | done | rfl, zak HB.out _⟩
  ·
   obtain rfl : j = n := by omega
   have hR : Hid (r = true) := by
    show r = true
    rw [HR.out, decide_eq_true_iff]
    exact yju (by rw [HL.out, HK.out]) fun i hi => HX.out i (by have := HK.out; omega)
   go_wp2_with fail
   go_ret
   exact ⟨by rw [hR.out]; first | done | rfl, HB.out⟩
theorem z0m (s t : SlV) (l k : List Nd) (w : World) (h : SlE Ene w (sv s) l) (h' : SlE Ene w (sv t) k) (hn : l.length ≤ 1000) :
  Calls Tryz.prog 49 #[sv s, sv t] w fun e w' => e = .returned (.bool (decide (l = k))) ∧ Below w.heap.size w w' := by
 have hs := zcn h
 have ht := zcn h'
 obtain ⟨p, n, cl⟩ := s
 obtain ⟨q, m, ck⟩ := t
 dsimp only at hs ht
 by_cases e : n = m
 ·
  subst e
  exact z5t p q n cl ck l k w h h' hs ht (by omega)
 ·
  rw [decide_eq_false (fun he => e (by rw [← hs, ← ht, he]))]
  exact z5u p q n m cl ck w e
theorem z4s (s t : SlV) (l k : List Nd) (w : World) (h : SlE Ene w (sv s) l) (h' : SlE Ene w (sv t) k) (hn : l.length ≤ 1000) :
  Calls Tryz.prog 22 #[.agg (tr ⟨s⟩), .agg (tr ⟨t⟩)] w fun e w' => e = .returned (.bool (decide (l = k))) ∧ Below w.heap.size w w' := by
 have HC := Lib.hid (fun W (g : Below w.heap.size w W) => z0m s t l k W (zad g h) (zad g h') hn)
 have HB : Hid (Below w.heap.size w ((w.alloc (.cells (tr ⟨s⟩) 24)).alloc (.cells (tr ⟨t⟩) 24))) := zac below1 below1
 obtain ⟨r, hr⟩ : ∃ r, r = decide (l = k) := ⟨_, rfl⟩
 rw [← hr] at HC ⊢
 clear h h' hn hr
 obtain ⟨p, n, cp⟩ := s
 obtain ⟨q, m, cq⟩ := t
 go_enter Tryz.func22, Tryz.ntmps22
 go_wp2_with fail
 refine (HC.out _ HB.out).mono ?_
 rintro e w1 ⟨rfl, g1⟩
 have G1 := Lib.hid g1
 clear g1
 go_wp2_with fail
 go_ret
 exact ⟨rfl, zac HB.out G1.out⟩
theorem z7h (x y : Sn) (s t : Sg) (w : World) (h : LaidS w x s) (h' : LaidS w y t) (hn : s.t.length ≤ 1000) :
  Calls Tryz.prog 16 #[.agg (sn x), .agg (sn y)] w fun e w' => e = .returned (.bool (decide (s = t))) ∧ Below w.heap.size w w' := by
 obtain ⟨W0, hW0⟩ : ∃ W0, W0 = (w.alloc (.cells (sn x) 40)).alloc (.cells (sn y) 40) := ⟨_, rfl⟩
 obtain ⟨hB, q0, q1, _⟩ := zdb w _ _ _ _ W0 hW0
 have A : Hid (Sw w W0 w.heap.size x s) := ⟨q0, h.keep hB, hB⟩
 have B : Hid (Sw w W0 (w.heap.size + 1) y t) := ⟨q1, h'.keep hB, hB⟩
 have HW := Lib.hid hW0
 have H1 := Lib.hid (fun W a b => z4s x.t.n y.t.n s.t t.t W a b hn)
 obtain ⟨a1, e1⟩ : ∃ a, a = decide (s.t = t.t) := ⟨_, rfl⟩
 obtain ⟨a2, e2⟩ : ∃ a, a = (s.ver == t.ver) := ⟨_, rfl⟩
 obtain ⟨a3, e3⟩ : ∃ a, a = eqB s.head t.head := ⟨_, rfl⟩
 obtain ⟨a4, e4⟩ : ∃ a, a = decide (s.just = t.just) := ⟨_, rfl⟩
 obtain ⟨a5, e5⟩ : ∃ a, a = decide (s.fin = t.fin) := ⟨_, rfl⟩
 have HF : Hid (decide (s = t) = (a2 && (a1 && (a3 && (a4 && a5))))) := by
  show _ = _
  rw [e1, e2, e3, e4, e5, Bool.eq_iff_iff]
  simp only [Bool.and_eq_true, decide_eq_true_iff, beq_iff_eq, zie]
  constructor
  ·
   rintro rfl; exact ⟨rfl, rfl, rfl, rfl, rfl⟩
  ·
   rintro ⟨h1, h2, h3, h4, h5⟩
   exact Sg.ext h1 h2 h3 h4 h5
 have t2 := e2.symm
 have t2' : decide (s.ver = t.ver) = a2 := by rw [e2, Bool.eq_iff_iff, decide_eq_true_iff, beq_iff_eq]
 have t3 := e3.symm
 have t4 := e4.symm
 have t5 := e5.symm
 rw [← e1] at H1
 obtain ⟨r, hr⟩ : ∃ r, r = decide (s = t) := ⟨_, rfl⟩
 rw [← hr] at HF ⊢
 clear hW0 hB q0 q1 h h' hn e1 e2 e3 e4 e5 hr
 go_enter Tryz.func16, Tryz.ntmps16
 go_upto_region 1 with fail
 rw [← HW.out]
 have za := A.out.zT
 have zc := B.out.zT
 have x1 := A.out.zv
 have x2 := B.out.zv
 cases a2
 ·
  go_wp2_with fail
  go_ret
  exact ⟨by rw [HF.out]; first | done | rfl | simp, A.out.g⟩
 go_wp2_with fail
 refine (H1.out _ A.out.l.t B.out.l.t).mono ?_
 rintro e w1 ⟨rfl, gg⟩
 replace A := Lib.hid (A.out.keep gg)
 replace B := Lib.hid (B.out.keep gg)
 clear za zc x1 x2 gg H1
 have x3 := A.out.zh
 have x4 := B.out.zh
 have x5 := A.out.zj
 have x6 := B.out.zj
 have x7 := A.out.zf
 have x8 := B.out.zf
 have last : r = (a1 && (a3 && (a4 && a5))) := by rw [HF.out]; rfl
 replace HF := Lib.hid last
 clear last
 cases a1
 ·
  go_wp2_with fail
  go_ret
  exact ⟨by rw [HF.out]; first | done | rfl | simp, A.out.g⟩
 cases a3
 ·
  go_wp2_with fail
  go_ret
  exact ⟨by rw [HF.out]; first | done | rfl | simp, A.out.g⟩
 cases a4
 ·
  go_wp2_with fail
  go_ret
  exact ⟨by rw [HF.out]; first | done | rfl | simp, A.out.g⟩
 cases a5
 ·
  go_wp2_with fail
  go_ret
  exact ⟨by rw [HF.out]; first | done | rfl | simp, A.out.g⟩
 go_wp2_with fail
 go_ret
 exact ⟨by rw [HF.out]; first | done | rfl | simp, A.out.g⟩
section
open Go.Maps
def z6f (r : Rt) : List Lit := (List.range 32).map fun i => Lit.int .u8 (at8 r i)
def rk (r : Rt) : Lit := .string (keyBytes (z6f r))
theorem keyed_root : Keyed Tryz.prog 34 := Keyed.of_law arr_root.law
theorem wf8 (r : Rt) (i : Nat) : (Lit.int .u8 (at8 r i)).wf = true := by
 have := yo4 r i
 show (decide (IntKind.u8.min ≤ at8 r i) && decide (at8 r i ≤ IntKind.u8.max)) = true
 rw [Bool.and_eq_true, decide_eq_true_eq, decide_eq_true_eq, show IntKind.u8.min = 0 from rfl, show IntKind.u8.max = 255 from rfl]
 omega
theorem zge (r : Rt) : keyOf Tryz.prog 34 (.agg (rc r)) = some (rk r) := by
 have hkt : Tryz.prog.keyType 34 = true := by kernel_rfl
 have hf : (Value.agg (rc r)).formed Tryz.prog 34 = true := by simp [Value.formed, Tryz.underlying34, arr_root.size, zav]
 obtain ⟨D, hD⟩ : ∃ D, Tryz.prog.types.size = D + 1 := ⟨Tryz.prog.types.size - 1, by have : 1 ≤ Tryz.prog.types.size := of_decide_eq_true (by kernel_rfl); omega⟩
 unfold keyOf
 simp only [Tryz.underlying34]
 rw [if_pos (by rw [hkt, hf]; rfl), hD]
 unfold Program.keyLits
 simp only [Tryz.underlying34, Value.cells]
 rw [if_pos (by rw [arr_root.size]; simp [zav]), arr_root.one]
 rw [zvj _ (List.range 32) ((List.range 32).map fun i => [Lit.int .u8 (at8 r i)]) (by simp) (fun j x y hx hy => ?_)]
 ·
  have hfl : ∀ l : List Nat, (l.map fun i => [Lit.int .u8 (at8 r i)]).flatten = l.map fun i => Lit.int .u8 (at8 r i) := fun l => by induction l with | nil => rfl | cons a t ih => simp [ih]
  simp [hfl, rk, z6f]
 ·
  have hj : j < 32 := by simpa using (List.getElem?_eq_some_iff.1 hx).1
  have ex : x = j := by
   obtain ⟨_, e⟩ := List.getElem?_eq_some_iff.1 hx
   simpa using e.symm
  subst ex
  have ey : y = [Lit.int .u8 (at8 r x)] := by
   rw [List.getElem?_map, hx] at hy
   simpa using hy.symm
  subst ey
  have hg : ((rc r).toList.drop (x * 1)).take 1 = [.int .u8 (at8 r x)] := by
   have hl : x < (rc r).toList.length := by simp [zav]; exact hj
   rw [Nat.mul_one, List.drop_eq_getElem_cons hl]
   simp [zm5]
  rw [hg]
  unfold Program.keyLits
  simp only [Tryz.underlying5]
  rw [if_pos ⟨trivial, wf8 r x⟩]
theorem ycy {a b : Rt} (h : rk a = rk b) : a = b := by
 have := keyed_root.inj (zge a) (by rw [h]; exact zge b)
 injection this with e
 exact yj6 e
theorem zlf (r : Rt) : WideAt.IsKeyLit (rk r) := keyed_root.key (zge r)
theorem zci {H : Type} {P : Program} {k : TypeId} {R : Value → Option (DataW H × List MemPlace)} {b n : Nat} {D : DataW H} {W w1 : World} (g : Below W.heap.size W w1) (h : W.ownsMap P k R b n D) : w1.ownsMap P k R b n D := by
 obtain ⟨es, clock, hb, F, hn, hD⟩ := h
 exact ⟨es, clock, (g.block _ (Array.getElem?_eq_some_iff.1 hb).1).trans hb, F, hn, hD⟩
end
section
open Go.Maps
open Go.RowKit Go.Maps
def iL (i : Nat) : DataW Unit := .lit (.int .i64 (i : Int))
def plD (l : List Nd) : Nat → DataW Unit
 | 0 => .map []
 | k + 1 => (plD l k).put (rk (nd l k).root) (iL k)
section
variable {l : List Nd}
theorem zlw (l : List Nd) : ∀ k, Tidy (plD l k)
 | 0 => tidy_empty
 | k + 1 => (zlw l k).put (zlf _) _
theorem zq4 (l : List Nd) (r : Rt) : ∀ k, Maps.has (plD l k) (rk r) = true ↔ ∃ i, i < k ∧ (nd l i).root = r
 | 0 => ⟨fun h => (by cases h), fun ⟨_, h, _⟩ => absurd h (Nat.not_lt_zero _)⟩
 | k + 1 => by
  unfold plD
  by_cases e : (nd l k).root = r
  ·
   rw [e, has_put_same (zlw l k).isMap (zlf r)]
   exact ⟨fun _ => ⟨k, Nat.lt_succ_self k, e⟩, fun _ => rfl⟩
  ·
   rw [has_put_other (fun h => e (ycy h).symm), zq4 l r k]
   constructor
   ·
    rintro ⟨i, hi, h⟩; exact ⟨i, by omega, h⟩
   ·
    rintro ⟨i, hi, h⟩
    rcases Nat.lt_succ_iff_lt_or_eq.1 hi with h1 | rfl
    ·
     exact ⟨i, h1, h⟩
    ·
     exact absurd h e
theorem yhi {r : Rt} {k : Nat} (h : ∀ i, i < k → (nd l i).root ≠ r) : Maps.has (plD l k) (rk r) = false := by
 rw [← Bool.not_eq_true, zq4]
 rintro ⟨i, hi, e⟩
 exact h i hi e
theorem yj3 {r : Rt} {i : Nat} (z : DataW Unit) (hr : (nd l i).root = r) : ∀ k, i < k → (∀ j, i < j → j < k → (nd l j).root ≠ r) → (plD l k).atKey (rk r) z = iL i
 | 0, h, _ => absurd h (Nat.not_lt_zero _)
 | k + 1, h, hj => by
  unfold plD
  by_cases e : i = k
  ·
   subst e
   rw [hr]
   exact atKey_put_same (zlw l i).isMap (zlf r) _ _
  ·
   rw [atKey_put_other (fun h2 => hj k (by omega) (Nat.lt_succ_self k) (ycy h2).symm)]
   exact yj3 z hr k (by omega) fun j h1 h2 => hj j h1 (by omega)
theorem zq5 (l : List Nd) : ∀ k, Maps.size (plD l k) ≤ k
 | 0 => Nat.le_refl _
 | k + 1 => by
  have ih := zq5 l k
  unfold plD
  rw [size_put (zlw l k)]
  split <;> omega
theorem z4b (l : List Nd) : ∀ k, Maps.size (plD l k) = k ↔ ∀ i, i < k → ∀ j, j < i → (nd l j).root ≠ (nd l i).root
 | 0 => ⟨fun _ i h => absurd h (Nat.not_lt_zero _), fun _ => rfl⟩
 | k + 1 => by
  have ih := z4b l k
  have hle := zq5 l k
  unfold plD
  rw [size_put (zlw l k)]
  by_cases hh : Maps.has (plD l k) (rk (nd l k).root) = true
  ·
   rw [if_pos hh]
   obtain ⟨i, hi, e⟩ := (zq4 l _ k).1 hh
   exact ⟨fun h => by omega, fun h => absurd e (h k (Nat.lt_succ_self k) i hi)⟩
  ·
   rw [if_neg hh]
   constructor
   ·
    intro h i hi j hj
    rcases Nat.lt_succ_iff_lt_or_eq.1 hi with h1 | rfl
    ·
     exact ih.1 (by omega) i h1 j hj
    ·
     intro e
     exact hh ((zq4 l _ i).2 ⟨j, hj, e⟩)
   ·
    intro h
    have := ih.2 fun i hi j hj => h i (by omega) j hj
    omega
theorem yhh (h : MayT l) (r : Rt) : Maps.has (plD l l.length) (rk r) = decide (0 ≤ zal l r) ∧ (0 ≤ zal l r → (plD l l.length).atKey (rk r) (iL 0) = .lit (.int .i64 (zal l r))) := by
 rcases zck h r with ⟨i, hi, e, hr⟩ | ⟨e, hn⟩
 ·
  rw [e]
  refine ⟨?_, fun _ => yj3 _ hr _ hi fun j h1 h2 e2 => ?_⟩
  ·
   rw [(zq4 l r _).2 ⟨i, hi, hr⟩]
   exact (decide_eq_true (by omega)).symm
  ·
   have := h.roots hi h2 (hr.trans e2.symm)
   omega
 ·
  rw [e]
  exact ⟨by rw [yhi hn]; rfl, fun h => by omega⟩
end
end
section
open Go.Maps
theorem zza {P : Program} {T k e : TypeId} (hu : P.underlying T = some (.map k e)) (n : Int) (w : World) : (Instr.makeMap T (some (.int .i64 n))).run P w = .ok (.map (some w.heap.size)) (w.alloc (.map #[] 0)) := by
 simp only [Instr.makeMap]
 simp [run_underlying hu, asInt]
 rfl
def yot (D : DataW Unit) (n : Nat) (w : World) (e : Ending) (w' : World) : Prop := ∃ b, e = .returned (.map (some b)) ∧ w'.ownsMap Tryz.prog 34 (plainElem Tryz.prog 3) b n D ∧ Below w.heap.size w w'
theorem ziz (p : Option Addr) (n cp : Nat) (l : List Nd) (w : World) (h : SlE Ene w (.slice p n cp) l) (hl : l.length = n) (hn : n ≤ 1000) :
  Calls Tryz.prog 48 #[.agg (tr ⟨⟨p, n, cp⟩⟩)] w (yot (plD l n) n w) := by
 have hmm := zza (P := Tryz.prog) Tryz.underlying94
 have HL := Lib.hid hl
 have HN := Lib.hid hn
 obtain ⟨W0, hW0⟩ : ∃ W0, W0 = w.alloc (.cells (tr ⟨⟨p, n, cp⟩⟩) 24) := ⟨_, rfl⟩
 have hB0 : Below w.heap.size w W0 := by rw [hW0]; exact below1
 have HS := Lib.hid (zad hB0 h)
 have M0 : Hid (W0.heap[w.heap.size]? = some (.cells (tr ⟨⟨p, n, cp⟩⟩) 24 (0, 0))) := by rw [hW0]; exact heap_alloc_last w _
 have HW := Lib.hid hW0
 have HB := Lib.hid hB0
 have Hb0 : Hid (W0.heap.size = w.heap.size + 1) := by rw [hW0]; exact World.size_alloc _ _
 clear hW0 h hl hn hB0
 go_enter Tryz.func48, Tryz.ntmps48
 go_wp2_with fail
 go_loopw [13] (fun i wr => ∃ j : Nat, j ≤ n ∧ i = .int .i64 (j : Int) ∧ wr.ownsMap Tryz.prog 34 (plainElem Tryz.prog 3) (w.heap.size + 1) j (plD l j) ∧ Below W0.heap.size W0 wr) (fun i _ => n - (intOf i).toNat)
 case atStart => exact ⟨0, Nat.zero_le _, rfl, by rw [← HW.out, ← Hb0.out]; exact World.ownsMap_made _ _ _ _, by rw [← HW.out]; exact below1⟩
 case round =>
  obtain ⟨j, hj, rfl, hown, hb⟩ := hrel
  have HO := Lib.hid hown
  have HBB := Lib.hid hb
  obtain ⟨z0, z1, zl⟩ := zaw (zab hb M0.out)
  dsimp only at z0
  rw [za7] at z0
  clear hown hb
  by_cases hlt : j < n
  ·
   have i0 : (0 : Int) ≤ (j : Int) := by omega
   have i1 : (j : Int) < (n : Int) := by omega
   have u1 : (j : Int) + 1 < 10000 := by have := HN.out; omega
   obtain ⟨b1, o1, rfl, q1, x1⟩ := zda HS.out (by have := HL.out; omega)
   have y1 := keep HBB.out (zjv x1 (i := j) (by have := HL.out; omega))
   have HXn : Hid (∃ x, x = nd l j) := ⟨_, rfl⟩
   clear x1 q1
   obtain ⟨x, hx⟩ := HXn.out
   rw [← hx] at y1
   have HXx := Lib.hid hx
   clear HXn hx
   go_wp2_with (at_mapUpdate; refine wpList_mapUpdate_own _ rfl _ _ _ 94 rfl 34 3 keyed_root Tryz.underlying94 (plainElem Tryz.prog 3) (w.heap.size + 1) j _ rfl (HO.out.alloc _) (by unfold maxLen; omega) _ _ _ rfl rfl (zge x.root) _ [] (plainElem_int Tryz.underlying3 (WalkArith.wf_i64 (by omega))) ?_; intro w1 hown1 hgrow1)
   go_roundw
   case rel => exact ⟨j + 1, by omega, by go_num, by unfold plD; rw [← HXx.out]; exact hown1, (zac HBB.out below1).grown hgrow1 (by have := HBB.out.size; simp; omega) (fun k hk => by cases hk; rw [Hb0.out]; exact Nat.le_refl _)⟩
   case measure => simp [intOf]; omega
  ·
   obtain rfl : j = n := by omega
   clear hlt
   go_wp2_with fail
   go_ret
   exact ⟨_, rfl, HO.out, zac HB.out HBB.out⟩
theorem z8c (s : SlV) (l : List Nd) (w : World) (h : SlE Ene w (sv s) l) (hn : l.length ≤ 1000) :
  Calls Tryz.prog 48 #[.agg (tr ⟨s⟩)] w (yot (plD l l.length) l.length w) := by
 have hs := zcn h
 obtain ⟨p, n, cp⟩ := s
 dsimp only at hs
 subst hs
 exact ziz p _ cp l w h rfl hn
theorem zk5 : ∀ args w, (callFunc 48 args).run Tryz.prog w = .ok (.enter 48 args) w := zbe Tryz.func48 (by kernel_rfl) (by kernel_rfl)
def zfo (l : List Nd) (i : Nat) : Prop := (i = 0 → (nd l i).parent = -1) ∧ (0 < i → 0 ≤ (nd l i).parent ∧ (nd l i).parent < i ∧ sl l (up l i) < sl l i)
instance (l : List Nd) (i : Nat) : Decidable (zfo l i) := by unfold zfo; exact inferInstance
theorem z8a (b1 o1 n cp : Nat) (l : List Nd) (i : Nat) (w : World) (hb : b1 < w.heap.size) (h : w.rangeAt b1 o1 (zaq Ene l)) (hl : l.length = n) (hn : n ≤ 1000) (hi : i < n) :
  Calls Tryz.prog 94 #[.agg (tr ⟨⟨some ⟨b1, o1, none⟩, n, cp⟩⟩), .int .i64 (i : Int)] w fun e w' => e = .returned (.bool (decide (zfo l i))) ∧ Below w.heap.size w w' := by
 have HB : Hid (Below w.heap.size w (w.alloc (.cells (tr ⟨⟨some ⟨b1, o1, none⟩, n, cp⟩⟩) 24))) := below1
 have X1 := Lib.hid h
 have HN := Lib.hid hn
 have HL := Lib.hid hl
 have HI := Lib.hid hi
 have i0 : (0 : Int) ≤ (i : Int) := by omega
 have i1 : (i : Int) < (n : Int) := by omega
 have y1 := zqo h (i := i) (by omega)
 have y2 := zgh h (i := i) (by omega)
 obtain ⟨r, hr⟩ : ∃ r, r = decide (zfo l i) := ⟨_, rfl⟩
 rw [← hr]
 have HR := Lib.hid hr
 obtain ⟨q, hq⟩ : ∃ q, q = (nd l i).parent := ⟨_, rfl⟩
 rw [← hq] at y1
 have HQ := Lib.hid hq
 clear h hn hl hr hq hi
 by_cases h0 : i = 0
 ·
  subst h0
  have HR' : Hid (r = (q == -1)) := by
   show r = _
   rw [HR.out, Bool.eq_iff_iff, decide_eq_true_iff, beq_iff_eq, HQ.out]
   unfold zfo
   exact ⟨fun h => h.1 rfl, fun h => ⟨fun _ => h, fun h => absurd h (Nat.lt_irrefl _)⟩⟩
  go_enter Tryz.func94, Tryz.ntmps94
  rw [Nat.zero_mul, Nat.add_zero] at y1
  go_wp2_with fail
  go_ret
  exact ⟨by rw [HR'.out]; first | done | rfl, HB.out⟩
 ·
  have c0 : ((i : Int) == 0) = false := by simpa using h0
  have c0' : decide ((i : Int) = 0) = false := by simpa using h0
  have c0'' : decide (i = 0) = false := by simpa using h0
  have H0 : Hid (0 < i) := Nat.pos_of_ne_zero h0
  have HF : Hid (¬ (0 ≤ q ∧ q < i ∧ sl l q.toNat < sl l i) → r = false) := fun hno => by
   rw [HR.out, decide_eq_false_iff_not]
   intro hbt
   have := hbt.2 H0.out
   unfold up at this
   rw [← HQ.out] at this
   exact hno this
  clear h0
  by_cases hp : 0 ≤ q
  ·
   have t1 : decide (0 ≤ q) = true := decide_eq_true hp
   by_cases hlt : q < (i : Int)
   ·
    have t2 : decide (q < (i : Int)) = true := decide_eq_true hlt
    obtain ⟨m, rfl⟩ : ∃ m : Nat, q = m := ⟨q.toNat, by omega⟩
    have t1' : decide ((0 : Int) ≤ (m : Int)) = true := t1
    have t2' : decide (m < i) = true := by rw [decide_eq_true_iff]; omega
    have i2 : (m : Int) < (n : Int) := by have := HI.out; omega
    have i3 : (0 : Int) ≤ (m : Int) := by omega
    have y3 := zgh X1.out (i := m) (by have := HL.out; have := HI.out; omega)
    obtain ⟨v, hv⟩ : ∃ v, v = decide ((nd l m).slot.toNat < (nd l i).slot.toNat) := ⟨_, rfl⟩
    have HR' : Hid (r = v) := by
     show r = _
     rw [HR.out, hv]
     congr 1
     rw [eq_iff_iff]
     unfold zfo up
     rw [← HQ.out, Int.toNat_natCast]
     exact ⟨fun h => (h.2 H0.out).2.2, fun h => ⟨fun e => by have := H0.out; omega, fun _ => ⟨by omega, by omega, h⟩⟩⟩
    have t3 : decide ((nd l m).slot.toNat < (nd l i).slot.toNat) = v := hv.symm
    have t3' : decide (((nd l m).slot.toNat : Int) < ((nd l i).slot.toNat : Int)) = v := by rw [hv]; congr 1; rw [eq_iff_iff]; omega
    clear hp hlt hv t1
    go_enter Tryz.func94, Tryz.ntmps94
    go_wp2_with fail
    go_quiet (fail)
    go_wp2_with fail
    go_ret
    exact ⟨by rw [HR'.out]; first | done | rfl, zak HB.out _⟩
   ·
    have t2 : decide (q < (i : Int)) = false := decide_eq_false hlt
    have hR : Hid (r = false) := HF.out (fun h => hlt h.2.1)
    clear hp hlt
    go_enter Tryz.func94, Tryz.ntmps94
    go_wp2_with fail
    go_quiet (fail)
    go_wp2_with fail
    go_ret
    exact ⟨by rw [hR.out]; first | done | rfl, zak HB.out _⟩
  ·
   have t1 : decide (0 ≤ q) = false := decide_eq_false hp
   have hR : Hid (r = false) := HF.out (fun h => hp h.1)
   clear hp
   go_enter Tryz.func94, Tryz.ntmps94
   go_wp2_with fail
   go_quiet (fail)
   go_wp2_with fail
   go_ret
   exact ⟨by rw [hR.out]; first | done | rfl, zak HB.out _⟩
theorem z3w (l : List Nd) : MayT l ↔ 1 ≤ l.length ∧ l.length ≤ 12 ∧ (∀ i, i < l.length → sl l i ≤ 1099511627776 ∧ zfo l i) ∧ Maps.size (plD l l.length) = l.length := by
 rw [z4b]
 unfold MayT z2q zfo
 exact ⟨fun h => ⟨h.1, h.2.1, fun i hi => ⟨(h.2.2 i hi).1, (h.2.2 i hi).2.1, (h.2.2 i hi).2.2.1⟩, fun i hi j hj => (h.2.2 i hi).2.2.2 j hj⟩,
  fun h => ⟨h.1, h.2.1, fun i hi => ⟨(h.2.2.1 i hi).1, (h.2.2.1 i hi).2.1, (h.2.2.1 i hi).2.2, fun j hj => h.2.2.2 i hi j hj⟩⟩⟩
theorem z2a (p : Option Addr) (n cp : Nat) (w : World) (hn : n = 0 ∨ 12 < n) :
  Calls Tryz.prog 47 #[.agg (tr ⟨⟨p, n, cp⟩⟩)] w fun e w' => e = .returned (.bool false) ∧ Below w.heap.size w w' := by
 have HB : Hid (Below w.heap.size w (w.alloc (.cells (tr ⟨⟨p, n, cp⟩⟩) 24))) := below1
 rcases hn with rfl | hn
 ·
  go_enter Tryz.func47, Tryz.ntmps47
  go_wp2_with fail
  go_ret
  exact ⟨rfl, HB.out⟩
 ·
  have t0 : ((n : Int) == 0) = false := by simp; omega
  have t0' : decide (n = 0) = false := by simp; omega
  have t1 : decide ((12 : Int) < (n : Int)) = true := by rw [decide_eq_true_iff]; omega
  have t1' : decide (12 < n) = true := decide_eq_true hn
  clear hn
  go_enter Tryz.func47, Tryz.ntmps47
  go_wp2_with fail
  go_ret
  exact ⟨rfl, HB.out⟩
theorem zzl (b1 o1 n cp : Nat) (l : List Nd) (w : World) (hb : b1 < w.heap.size) (h : w.rangeAt b1 o1 (zaq Ene l)) (hcp : n ≤ cp) (hl : l.length = n) (h0 : 0 < n) (hn : n ≤ 12) :
  Calls Tryz.prog 47 #[.agg (tr ⟨⟨some ⟨b1, o1, none⟩, n, cp⟩⟩)] w fun e w' => e = .returned (.bool (decide (MayT l))) ∧ Below w.heap.size w w' := by
 obtain ⟨W0, hW0⟩ : ∃ W0, W0 = w.alloc (.cells (tr ⟨⟨some ⟨b1, o1, none⟩, n, cp⟩⟩) 24) := ⟨_, rfl⟩
 have hB0 : Below w.heap.size w W0 := by rw [hW0]; exact below1
 have M0 : Hid (W0.heap[w.heap.size]? = some (.cells (tr ⟨⟨some ⟨b1, o1, none⟩, n, cp⟩⟩) 24 (0, 0))) := by rw [hW0]; exact heap_alloc_last w _
 have X1 := Lib.hid (zfu hB0 h)
 have Q1 : Hid (b1 < W0.heap.size) := Nat.lt_of_lt_of_le hb hB0.size
 have HW := Lib.hid hW0
 have HB := Lib.hid hB0
 have HN := Lib.hid hn
 have HL := Lib.hid hl
 have HCP := Lib.hid hcp
 have H0 := Lib.hid h0
 obtain ⟨r, hr⟩ : ∃ r, r = decide (MayT l) := ⟨_, rfl⟩
 rw [← hr]
 have HR := Lib.hid hr
 have HNo : Hid (∀ i, i < n → ¬ (sl l i ≤ 1099511627776 ∧ zfo l i) → r = false) := by
  intro i hi hno
  rw [hr, decide_eq_false_iff_not, z3w]
  exact fun hm => hno (hm.2.2.1 i (by omega))
 have t0 : ((n : Int) == 0) = false := by simp; omega
 have t0' : decide (n = 0) = false := by simp; omega
 have t1 : decide ((12 : Int) < (n : Int)) = false := by rw [decide_eq_false_iff_not]; omega
 have t1' : decide (12 < n) = false := by rw [decide_eq_false_iff_not]; omega
 clear hW0 hB0 h hb hcp hl h0 hn hr
 go_enter Tryz.func47, Tryz.ntmps47
 go_wp2_with fail
 rw [← HW.out]
 clear t0 t0' t1 t1'
 go_loopw [17, 3] (fun i _ wr => ∃ j : Nat, j ≤ n ∧ i = .int .i64 (j : Int) ∧ (∀ k, k < j → sl l k ≤ 1099511627776 ∧ zfo l k) ∧ Below W0.heap.size W0 wr) (fun i _ _ => n - (intOf i).toNat)
 case atStart => exact ⟨0, Nat.zero_le _, rfl, fun k hk => absurd hk (Nat.not_lt_zero _), Below.refl _ _⟩
 case round =>
  obtain ⟨j, hj, rfl, hx, hb⟩ := hrel
  have HX := Lib.hid hx
  have HBB := Lib.hid hb
  obtain ⟨z0, z1, zl⟩ := zaw (zab hb M0.out)
  dsimp only at z0
  rw [za7] at z0
  clear hx hb
  by_cases hlt : j < n
  ·
   have i0 : (0 : Int) ≤ (j : Int) := by omega
   have i1 : (j : Int) < (n : Int) := by omega
   have u1 : (j : Int) + 1 < 10000 := by have := HN.out; omega
   have y2 := zgh (zfu HBB.out X1.out) (i := j) (by have := HL.out; omega)
   by_cases hs : 1099511627776 < (nd l j).slot.toNat
   ·
    have t1 : decide ((1099511627776 : Int) < ((nd l j).slot.toNat : Int)) = true := by rw [decide_eq_true_iff]; omega
    have t1' : decide (1099511627776 < (nd l j).slot.toNat) = true := decide_eq_true hs
    have hR : Hid (r = false) := HNo.out j hlt (fun ho => by have := ho.1; unfold sl at this; omega)
    clear hs
    go_wp2_with fail
    go_ret
    exact ⟨by rw [hR.out]; first | done | rfl, zac HB.out HBB.out⟩
   ·
    have t1 : decide ((1099511627776 : Int) < ((nd l j).slot.toNat : Int)) = false := by rw [decide_eq_false_iff_not]; omega
    have t1' : decide (1099511627776 < (nd l j).slot.toNat) = false := decide_eq_false hs
    have HS : Hid (sl l j ≤ 1099511627776) := by show sl l j ≤ _; unfold sl; omega
    have HC := Lib.hid (z8a b1 o1 n cp l j wr (Nat.lt_of_lt_of_le Q1.out HBB.out.size) (zfu HBB.out X1.out) HL.out (by have := HN.out; omega) hlt)
    obtain ⟨c, hc⟩ : ∃ c, c = decide (zfo l j) := ⟨_, rfl⟩
    rw [← hc] at HC
    have HCc := Lib.hid hc
    clear hs hc
    go_wp2_with fail
    refine HC.out.mono ?_
    rintro e w1 ⟨rfl, g1⟩
    have G1 := Lib.hid (zac HBB.out g1)
    clear g1
    cases c
    ·
     have hR : Hid (r = false) := HNo.out j hlt (fun ho => by have := HCc.out; rw [decide_eq_true ho.2] at this; cases this)
     go_wp2_with fail
     go_ret
     exact ⟨by rw [hR.out]; first | done | rfl, zac HB.out G1.out⟩
    ·
     go_wp2_with fail
     go_roundw
     case rel => exact ⟨j + 1, by omega, by go_num, fun k hk => by
      rcases Nat.lt_succ_iff_lt_or_eq.1 hk with h | rfl
      ·
       exact HX.out k h
      ·
       exact ⟨HS.out, of_decide_eq_true HCc.out.symm⟩, G1.out⟩
     case measure => simp [intOf]; omega
  ·
   obtain rfl : j = n := by omega
   obtain ⟨m, hm⟩ : ∃ m, m = Maps.size (plD l j) := ⟨_, rfl⟩
   have hR : r = decide (m = j) := by
    rw [HR.out, hm]
    congr 1
    rw [eq_iff_iff, z3w, HL.out]
    exact ⟨fun h => h.2.2.2, fun h => ⟨H0.out, HN.out, HX.out, h⟩⟩
   have s1 : ((m : Int) == (j : Int)) = r := by rw [hR, Bool.eq_iff_iff, beq_iff_eq, decide_eq_true_iff]; omega
   have s2 : decide (m = j) = r := hR.symm
   have HM := Lib.hid hm
   clear hlt hR hm
   go_wp2_with fail
   have Lc := fun q : Wd wr.drew => yq9 (zab HBB.out M0.out) q
   have Ld := fun q : Wd wr.drew => zay z0 q
   refine zan [1] (by kernel_rfl) (by kernel_rfl) (by kernel_rfl) ?_
   repeat (refine zae rfl rfl _ zaf ?_; (first | go_big_quiet_step (fail) | quiet_step (fail)); refine wpQuiet_nil ?_)
   refine zau rfl rfl rfl zk5 #[.agg (tr ⟨⟨some ⟨b1, o1, none⟩, j, cp⟩⟩)] rfl ?_
   refine (ziz (some ⟨b1, o1, none⟩) j cp l _ (zad (zac HBB.out (zak (Below.refl _ _) 1)) ⟨some ⟨b1, o1, none⟩, cp, by rw [HL.out], by rw [HL.out]; exact HCP.out, .inr ⟨b1, o1, rfl, Q1.out, X1.out⟩⟩) HL.out (by have := HN.out; omega)).mono ?_
   rintro e u ⟨b, rfl, ho, g⟩
   refine ⟨_, rfl, g, ?_⟩
   simp only [Act.put, List.setIfInBounds_toArray, List.set_cons_zero, List.set_cons_succ]
   have Le := fun (q : Wd u) (ty : TypeId) => (zci q.h ho).len Tryz.underlying94 ty
   rw [← HM.out] at Le
   have G := Lib.hid (zac (zac HBB.out (zak (Below.refl _ _) 1)) g)
   clear g ho
   refine zae rfl rfl u (z9l 1 u (by simp) (by kernel_rfl)) ?_
   (first | go_big_quiet_step (fail) | quiet_step (fail))
   refine wpQuiet_nil ?_
   repeat (refine zae rfl rfl _ zaf ?_; (first | go_big_quiet_step (fail) | quiet_step (fail)); refine wpQuiet_nil ?_)
   refine zbd ?_
   go_wp2_with fail
   go_ret
   exact ⟨rfl, zac HB.out G.out⟩
theorem ze3 (s : SlV) (l : List Nd) (w : World) (h : SlE Ene w (sv s) l) :
  Calls Tryz.prog 47 #[.agg (tr ⟨s⟩)] w fun e w' => e = .returned (.bool (decide (MayT l))) ∧ Below w.heap.size w w' := by
 have hs := zcn h
 obtain ⟨p, n, cp⟩ := s
 dsimp only at hs
 by_cases hf : n = 0 ∨ 12 < n
 ·
  have e : decide (MayT l) = false := by
   rw [decide_eq_false_iff_not]
   intro hm
   have := hm.1
   have := hm.2.1
   omega
  rw [e]
  exact z2a p n cp w hf
 ·
  obtain ⟨b, o, c, e1, hc, q, x⟩ := zdm h (by omega)
  unfold sv at e1
  injection e1 with e2 e4 e3
  dsimp only at e2 e3
  subst e2 e3
  exact zzl b o n cp l w q x (by omega) hs (by omega) (by omega)
end
end Go.Proofs.YtkalofboioffiaaGreat
