import Derived.Test.YtkalofboioffiaaGreatT12
import Derived.Laws.Bits64b
namespace Go.Proofs.YtkalofboioffiaaGreat
open Go.RowKit
set_option maxRecDepth 200000
set_option maxHeartbeats 64000000
theorem zlp {w : World} {p : Option Addr} {n cp : Nat} {l : List Aa} (h : SlE Eaa w (.slice p n cp) l) (h0 : 0 < l.length) : ∃ b o, p = some ⟨b, o, none⟩ ∧ b < w.heap.size ∧ w.rangeAt b o (zaq Eaa l) := by
 obtain ⟨b, o, c, e, _, q, x⟩ := zcz h h0
 injection e with e1 e2 e3
 exact ⟨b, o, e1, q, x⟩
theorem z30 {w : World} {b off : Nat} {l : List Aa} (h : w.rangeAt b off (zaq Eaa l)) {i : Nat} (hi : i < l.length) : ldA w (.pointer (some ⟨b, off + i * 100, none⟩)) 100 = some (aa (att l i)) := by
 have := zp0 h hi
 rw [zim hi]
 exact this.trans (by rw [show (Eaa.enc l[i]).toArray = aa l[i] from Array.toList_inj.1 (by rw [zvj]; rfl)])
theorem zsu {w : World} {b off : Nat} {l : List Aa} (h : w.rangeAt b off (zaq Eaa l)) {i : Nat} (hi : i < l.length) : w.cell? ⟨b, off + i * 100 + 1, none⟩ = some (.int .u64 (slA l i : Int)) := by
 have := zo8 (zdi h hi)
 unfold slA
 rw [zim hi]
 exact this
def zvi (L K : List Aa) (w : World) (e : Ending) (w' : World) : Prop := ∃ v u, e = .returned (.tuple #[v, u]) ∧ SlE Eaa w' v L ∧ SlE Eaa w' u K ∧ Below w.heap.size w w'
theorem z3o (w : World) (x : Aa) (b : Nat) (hb : b = w.heap.size) : SlE Eaa (w.alloc (.cells (aa x) 113)) (.slice (some ⟨b, 0, none⟩) 1 1) [x] := zdu _ [x] 1 _ _ _ rfl hb (by simp [zaq, Eaa, zvj])
theorem z2f (p : Option Addr) (n cp : Nat) (l : List Aa) (w : World) (h : SlE Eaa w (.slice p n cp) l) (hl : l.length = n) (hn : n ≤ 1000) :
  Calls Tryz.prog 107 #[.slice p n cp] w fun e w' => e = .returned (.bool (mayA l)) ∧ Below w.heap.size w w' := by
 have HS := Lib.hid h
 have HL := Lib.hid hl
 have HN := Lib.hid hn
 obtain ⟨r, hr⟩ : ∃ r, r = mayA l := ⟨_, rfl⟩
 rw [← hr]
 have HR := Lib.hid hr
 clear h hl hn hr
 go_enter Tryz.func107, Tryz.ntmps107
 go_wp2_with fail
 go_loopw [3] (fun i wr => ∃ j : Nat, j ≤ n ∧ i = .int .i64 (j : Int) ∧ (∀ x, x < j → slA l x ≤ 1099511627776) ∧ wr = w) (fun i _ => n - (intOf i).toNat)
 case atStart => exact ⟨0, Nat.zero_le _, rfl, fun x hx => absurd hx (Nat.not_lt_zero _), rfl⟩
 case round =>
  obtain ⟨j, hj, rfl, hx, rfl⟩ := hrel
  have HX := Lib.hid hx
  clear hx
  by_cases hlt : j < n
  ·
   have i0 : (0 : Int) ≤ (j : Int) := by omega
   have i1 : (j : Int) < (n : Int) := by omega
   have u1 : (j : Int) + 1 < 10000 := by have := HN.out; omega
   obtain ⟨b1, o1, rfl, q1, x1⟩ := zlp HS.out (by have := HL.out; omega)
   have y1 := zsu x1 (i := j) (by have := HL.out; omega)
   have HLT := Lib.hid hlt
   obtain ⟨y, hy⟩ : ∃ y, y = slA l j := ⟨_, rfl⟩
   rw [← hy] at y1
   have HY := Lib.hid hy
   clear x1 q1 hlt hy
   by_cases hb : 1099511627776 < y
   ·
    have t0 : decide ((1099511627776 : Int) < (y : Int)) = true := decide_eq_true (by omega)
    have t0' : decide (1099511627776 < y) = true := decide_eq_true hb
    have hF : Hid (r = false) := by show r = false; rw [HR.out, ← Bool.not_eq_true]; intro e; have := (zlu.1 e).2 j (by rw [HL.out]; exact HLT.out); rw [← HY.out] at this; omega
    clear hb
    go_wp2_with fail
    go_ret
    exact ⟨by rw [hF.out]; first | done | rfl, Below.refl _ _⟩
   ·
    have t0 : decide ((1099511627776 : Int) < (y : Int)) = false := decide_eq_false (by omega)
    have t0' : decide (1099511627776 < y) = false := decide_eq_false hb
    have HB : Hid (y ≤ 1099511627776) := by show _ ≤ _; omega
    clear hb
    go_wp2_with fail
    go_roundw
    case rel => exact ⟨j + 1, HLT.out, by go_num, (fun x hx => by
     rcases Nat.lt_succ_iff_lt_or_eq.1 hx with h | rfl
     ·
      exact HX.out x h
     ·
      rw [← HY.out]; exact HB.out), by first | rfl | trivial⟩
    case measure => simp [intOf]; have := HLT.out; omega
  ·
   obtain rfl : j = n := by omega
   clear hlt
   by_cases h8 : j ≤ 6
   ·
    have t2 : decide ((j : Int) ≤ 6) = true := decide_eq_true (by omega)
    have t2' : decide (j ≤ 6) = true := decide_eq_true h8
    have hF : Hid (r = true) := by show r = true; rw [HR.out]; exact zlu.2 ⟨by rw [HL.out]; exact h8, fun i hi => HX.out i (by rw [← HL.out]; exact hi)⟩
    clear h8
    go_wp2_with fail
    go_ret
    exact ⟨by rw [hF.out]; first | done | rfl, Below.refl _ _⟩
   ·
    have t2 : decide ((j : Int) ≤ 6) = false := decide_eq_false (by omega)
    have t2' : decide (j ≤ 6) = false := decide_eq_false h8
    have hF : Hid (r = false) := by show r = false; rw [HR.out, ← Bool.not_eq_true]; intro e; have := (zlu.1 e).1; rw [HL.out] at this; omega
    clear h8
    go_wp2_with fail
    go_ret
    exact ⟨by rw [hF.out]; first | done | rfl, Below.refl _ _⟩
theorem yb9 (v : Value) (l : List Aa) (w : World) (h : SlE Eaa w v l) (hn : l.length ≤ 1000) :
  Calls Tryz.prog 107 #[v] w fun e w' => e = .returned (.bool (mayA l)) ∧ Below w.heap.size w w' := by
 have k := h
 obtain ⟨p, cp, rfl, _⟩ := zal h
 exact z2f p _ cp l w k rfl hn
open Go.RowKit
theorem zes {w : World} {p : Option Addr} {n cp : Nat} {l : List Lk} (h : SlE Elk w (.slice p n cp) l) (h0 : 0 < l.length) : ∃ b o, p = some ⟨b, o, none⟩ ∧ b < w.heap.size ∧ w.rangeAt b o (zaq Elk l) := by
 obtain ⟨b, o, c, e, _, q, x⟩ := zcz h h0
 injection e with e1 e2 e3
 exact ⟨b, o, e1, q, x⟩
section
variable {w : World} {b off : Nat} {l : List Lk} {i : Nat}
theorem znj (h : w.rangeAt b off (zaq Elk l)) (hi : i < l.length) : w.rangeAt b (off + i * 67) (lkL (lkAt l i)) := by
 rw [zd6 hi]; exact zdi h hi
theorem zi9 (h : w.rangeAt b off (zaq Elk l)) (hi : i < l.length) : ldA w (.pointer (some ⟨b, off + i * 67, none⟩)) 67 = some (lk (lkAt l i)) := by
 have := zp0 h hi
 rw [zd6 hi]
 exact this.trans (by rw [show (Elk.enc l[i]).toArray = lk l[i] from Array.toList_inj.1 (by rw [zwg]; rfl)])
theorem yi9 (h : w.rangeAt b off (zaq Elk l)) (hi : i < l.length) : ldA w (.pointer (some ⟨b, off + i * 67, none⟩)) 33 = some (cc (lkAt l i).s) := z52 (znj h hi)
theorem yf5 (h : w.rangeAt b off (zaq Elk l)) (hi : i < l.length) : ldA w (.pointer (some ⟨b, off + i * 67 + 33, none⟩)) 33 = some (cc (lkAt l i).t) := z53 (znj h hi)
theorem ya8 (h : w.rangeAt b off (zaq Elk l)) (hi : i < l.length) : w.cell? ⟨b, off + i * 67 + 66, none⟩ = some (.int .u64 ((lkAt l i).mask.toNat : Int)) := zp4 (znj h hi)
theorem yja (h : w.rangeAt b off (zaq Elk l)) (hi : i < l.length) : w.cell? ⟨b, off + i * 67, none⟩ = some (.int .u64 ((lkAt l i).s.epoch.toNat : Int)) := zi7 (znj h hi)
theorem ydq (h : w.rangeAt b off (zaq Elk l)) (hi : i < l.length) : w.cell? ⟨b, off + i * 67 + 33, none⟩ = some (.int .u64 ((lkAt l i).t.epoch.toNat : Int)) := zi8 (znj h hi)
end
structure LkV (W : World) (g : Nat) (x : Lk) : Prop where
 s : ldA W (.pointer (some ⟨g, 0, none⟩)) 33 = some (cc x.s)
 t : ldA W (.pointer (some ⟨g, 33, none⟩)) 33 = some (cc x.t)
 m : W.cell? ⟨g, 66, none⟩ = some (.int .u64 (x.mask.toNat : Int))
 se : W.cell? ⟨g, 0, none⟩ = some (.int .u64 (x.s.epoch.toNat : Int))
 te : W.cell? ⟨g, 33, none⟩ = some (.int .u64 (x.t.epoch.toNat : Int))
 a : ldA W (.pointer (some ⟨g, 0, none⟩)) 67 = some (lk x)
 g : g < W.heap.size
theorem lk_v {W : World} {g : Nat} {x : Lk} (h : W.heap[g]? = some (.cells (lk x) 118 (0, 0))) : LkV W g x :=
 ⟨ya6 h, ya7 h, zwh h, zox h, zoy h, zar h (zni x), (Array.getElem?_eq_some_iff.1 h).1⟩
structure CkV (W : World) (g : Nat) (x : Ck) : Prop where
 a : ldA W (.pointer (some ⟨g, 0, none⟩)) 33 = some (cc x)
 e : W.cell? ⟨g, 0, none⟩ = some (.int .u64 (x.epoch.toNat : Int))
 g : g < W.heap.size
theorem ck_v {W : World} {g : Nat} {x : Ck} (h : W.heap[g]? = some (.cells (cc x) 36 (0, 0))) : CkV W g x :=
 ⟨zar h (zax x), zgt h, (Array.getElem?_eq_some_iff.1 h).1⟩
theorem yf4 (w : World) (x : Lk) (b : Nat) (hb : b = w.heap.size) : SlE Elk (w.alloc (.cells (lk x) 118)) (.slice (some ⟨b, 0, none⟩) 1 1) [x] :=
 zdu w _ 1 _ _ b rfl hb (by simp [zaq, Elk, zwg])
theorem yi8 (w : World) (a b : Lk) (W : World) (hW : W = (w.alloc (.cells (lk a) 118)).alloc (.cells (lk b) 118)) : Below w.heap.size w W ∧ LkV W w.heap.size a ∧ LkV W (w.heap.size + 1) b := by
 obtain ⟨g, m, n, _⟩ := zc2 w _ _ _ _ W hW
 exact ⟨g, lk_v m, lk_v n⟩
theorem ycb (a b : Lk) (w : World) :
  Calls Tryz.prog 145 #[.agg (lk a), .agg (lk b)] w fun e w' => e = .returned (.bool (oneB a b)) ∧ Below w.heap.size w w' := by
 obtain ⟨W0, hW0⟩ : ∃ W0, W0 = (w.alloc (.cells (lk a) 118)).alloc (.cells (lk b) 118) := ⟨_, rfl⟩
 obtain ⟨hB, A, B⟩ := yi8 w a b W0 hW0
 have HB := Lib.hid hB
 have HW := Lib.hid hW0
 have a1 := A.s
 have a2 := A.t
 have b1 := B.s
 have b2 := B.t
 have HR : Hid (oneB a b = (decide (a.s = b.s) && decide (a.t = b.t))) := by show _ = _; unfold oneB; rw [Bool.eq_iff_iff]; simp
 rw [HR.out]
 obtain ⟨E1, hE1⟩ : ∃ E, E = decide (a.s = b.s) := ⟨_, rfl⟩
 obtain ⟨E2, hE2⟩ : ∃ E, E = decide (a.t = b.t) := ⟨_, rfl⟩
 rw [← hE1, ← hE2]
 clear HR hW0 hB A B
 go_enter Tryz.func145, Tryz.ntmps145
 go_upto_region 1 with fail
 rw [← HW.out]
 generalize a.s = A1 at *
 generalize a.t = A2 at *
 generalize b.s = B1 at *
 generalize b.t = B2 at *
 have t1 := hE1.symm
 have t2 := hE2.symm
 clear hE1 hE2
 cases E1 <;> (
  go_wp2_with fail
  go_ret
  exact ⟨by first | rfl | (rw [t2]; rfl) | (cases E2 <;> rfl), HB.out⟩)
theorem zmq : ∀ args w, (callFunc 145 args).run Tryz.prog w = .ok (.enter 145 args) w := za7 Tryz.func145 (by kernel_rfl) (by kernel_rfl)
theorem z2g (p : Option Addr) (n cp : Nat) (l : List Lk) (w : World) (h : SlE Elk w (.slice p n cp) l) (hl : l.length = n) (hn : n ≤ 1000) :
  Calls Tryz.prog 108 #[.slice p n cp] w fun e w' => e = .returned (.bool (mayL l)) ∧ Below w.heap.size w w' := by
 have HS := Lib.hid h
 have HL := Lib.hid hl
 have HN := Lib.hid hn
 obtain ⟨r, hr⟩ : ∃ r, r = mayL l := ⟨_, rfl⟩
 rw [← hr]
 have HR := Lib.hid hr
 have HO := Lib.hid (fun (a b : Lk) W => ycb a b W)
 clear h hl hn hr
 go_enter Tryz.func108, Tryz.ntmps108
 go_wp2_with fail
 go_loopw [3] (fun i wr => ∃ j : Nat, j ≤ n ∧ i = .int .i64 (j : Int) ∧ MayK l j ∧ Below w.heap.size w wr) (fun i _ => n - (intOf i).toNat)
 case atStart => exact ⟨0, Nat.zero_le _, rfl, fun i hi => absurd hi (Nat.not_lt_zero _), Below.refl _ _⟩
 case round =>
  obtain ⟨j, hj, rfl, hm, hb⟩ := hrel
  obtain ⟨wo, rfl⟩ : ∃ wo : World, wo = wr := ⟨_, rfl⟩
  have HM := Lib.hid hm
  have HB := Lib.hid hb
  clear hm hb
  by_cases hlt : j < n
  ·
   have i0 : (0 : Int) ≤ (j : Int) := by omega
   have i1 : (j : Int) < (n : Int) := by omega
   have u1 : (j : Int) + 1 < 10000 := by have := HN.out; omega
   have d0 : decide ((j : Int) < (n : Int)) = true := decide_eq_true i1
   have d0' : decide (j < n) = true := decide_eq_true hlt
   have HLT := Lib.hid hlt
   obtain ⟨b1, o1, rfl, _, x1⟩ := zes (zad HB.out HS.out) (by have := HL.out; omega)
   have y1 := yja x1 (i := j) (by have := HL.out; omega)
   have y2 := ydq x1 (i := j) (by have := HL.out; omega)
   have y3 := ya8 x1 (i := j) (by have := HL.out; omega)
   have HOK : Hid (r = true → okK (lkAt l j)) := fun e => ((zf9.1 (HR.out.symm.trans e)).1 j (by rw [HL.out]; exact HLT.out)).1
   have HOK2 : Hid ((lkAt l j).s.epoch.toNat < (lkAt l j).t.epoch.toNat → 1 ≤ (lkAt l j).mask.toNat → (lkAt l j).mask.toNat ≤ 255 → okK (lkAt l j)) := fun a b c => ⟨a, b, c⟩
   have HOK3 : Hid (okK (lkAt l j) → (lkAt l j).s.epoch.toNat < (lkAt l j).t.epoch.toNat ∧ 1 ≤ (lkAt l j).mask.toNat ∧ (lkAt l j).mask.toNat ≤ 255) := fun h => h
   generalize (lkAt l j).s.epoch.toNat = S at *
   generalize (lkAt l j).t.epoch.toNat = T at *
   generalize (lkAt l j).mask.toNat = M at *
   clear hlt x1
   by_cases h1 : T ≤ S
   ·
    have t1 : decide ((T : Int) ≤ (S : Int)) = true := decide_eq_true (by omega)
    have t1' : decide (T ≤ S) = true := decide_eq_true h1
    have hF : Hid (r = false) := by show r = false; rw [← Bool.not_eq_true]; intro e; have := HOK3.out (HOK.out e); omega
    clear h1
    go_wp2_with fail
    go_quiet (fail)
    go_wp2_with fail
    go_ret
    exact ⟨by rw [hF.out]; first | done | rfl, zah HB.out _⟩
   ·
    have t1 : decide ((T : Int) ≤ (S : Int)) = false := decide_eq_false (by omega)
    have t1' : decide (T ≤ S) = false := decide_eq_false h1
    by_cases h2 : M < 1
    ·
     have t2 : decide ((M : Int) < 1) = true := decide_eq_true (by omega)
     have t2' : decide (M < 1) = true := decide_eq_true h2
     have t2'' : decide (M = 0) = true := decide_eq_true (by omega)
     have hF : Hid (r = false) := by show r = false; rw [← Bool.not_eq_true]; intro e; have := HOK3.out (HOK.out e); omega
     clear h1 h2
     go_wp2_with fail
     go_quiet (fail)
     go_wp2_with fail
     go_ret
     exact ⟨by rw [hF.out]; first | done | rfl, zah HB.out _⟩
    ·
     have t2 : decide ((M : Int) < 1) = false := decide_eq_false (by omega)
     have t2' : decide (M < 1) = false := decide_eq_false h2
     have t2'' : decide (M = 0) = false := decide_eq_false (by omega)
     by_cases h3 : 255 < M
     ·
      have t3 : decide ((255 : Int) < (M : Int)) = true := decide_eq_true (by omega)
      have t3' : decide (255 < M) = true := decide_eq_true h3
      have hF : Hid (r = false) := by show r = false; rw [← Bool.not_eq_true]; intro e; have := HOK3.out (HOK.out e); omega
      clear h1 h2 h3
      go_wp2_with fail
      go_quiet (fail)
      go_wp2_with fail
      go_ret
      exact ⟨by rw [hF.out]; first | done | rfl, zah HB.out _⟩
     ·
      have t3 : decide ((255 : Int) < (M : Int)) = false := decide_eq_false (by omega)
      have t3' : decide (255 < M) = false := decide_eq_false h3
      have HK := Lib.hid (HOK2.out (by omega) (by omega) (by omega))
      clear h1 h2 h3
      go_wp2_with fail
      go_quiet (fail)
      go_wp2_with fail
      clear y1 y2 y3 t1 t1' t2 t2' t2'' t3 t3' d0 d0'
      go_loopw [4] (fun k wr => ∃ q : Nat, q ≤ j ∧ k = .int .i64 (q : Int) ∧ (∀ x, x < q → oneB (lkAt l j) (lkAt l x) = false) ∧ Below wo.heap.size wo wr) (fun k _ => j - (intOf k).toNat)
      case atStart => exact ⟨0, Nat.zero_le _, rfl, fun x hx => absurd hx (Nat.not_lt_zero _), zah (Below.refl _ _) _⟩
      case round =>
       obtain ⟨q, hq, rfl, hx, hb⟩ := hrel
       have HX := Lib.hid hx
       have HI := Lib.hid hb
       clear hx hb
       by_cases hqj : q < j
       ·
        have d1 : decide ((q : Int) < (j : Int)) = true := decide_eq_true (by omega)
        have d1' : decide (q < j) = true := decide_eq_true hqj
        have q0 : (0 : Int) ≤ (q : Int) := by omega
        have q1 : (q : Int) < (n : Int) := by omega
        have q2 : (q : Int) + 1 < 10000 := by omega
        have HQ := Lib.hid hqj
        obtain ⟨b2, o2, e2, _, x2⟩ := zes (zad (zab HB.out HI.out) HS.out) (by have := HL.out; omega)
        cases e2
        have y1 := zi9 x2 (i := j) (by have := HL.out; omega)
        have y2 := zi9 x2 (i := q) (by have := HL.out; omega)
        have HC := Lib.hid (fun W => HO.out (lkAt l j) (lkAt l q) W)
        obtain ⟨E, hE⟩ : ∃ E, E = oneB (lkAt l j) (lkAt l q) := ⟨_, rfl⟩
        rw [← hE] at HC
        have HE := Lib.hid hE
        have HRq : Hid (r = true → oneB (lkAt l j) (lkAt l q) = false) := fun e => ((zf9.1 (HR.out.symm.trans e)).1 j (by rw [HL.out]; exact HLT.out)).2 q HQ.out
        generalize lkAt l j = Lj at *
        generalize hLq : lkAt l q = Lq at *
        have HLq := Lib.hid hLq
        clear hqj x2 hE hLq
        go_wp2_with fail
        have L0 := fun p : Wd wr.drew => zbb y1 (by decide) p
        have L1 := fun p : Wd wr.drew => zbb y2 (by decide) p
        clear y1 y2
        refine zaj [8] (by kernel_rfl) (by kernel_rfl) (by kernel_rfl) ?_
        repeat (first | (refine zae rfl rfl _ zaf ?_; (first | go_big_quiet_step (fail) | quiet_step (fail)); refine wpQuiet_nil ?_) | refine zag rfl ?_)
        refine zan rfl rfl rfl zmq #[.agg (lk Lj), .agg (lk Lq)] rfl ?_
        refine (HC.out _).mono ?_
        rintro e u ⟨rfl, g⟩
        refine ⟨_, rfl, g, ?_⟩
        simp only [Act.put, List.setIfInBounds_toArray, List.set_cons_zero, List.set_cons_succ]
        have G : Hid (Below wo.heap.size wo u) := zab HI.out (zab (zah (Below.refl _ _) 1) g)
        clear g
        repeat (first | (refine zae rfl rfl _ zaf ?_; (first | go_big_quiet_step (fail) | quiet_step (fail)); refine wpQuiet_nil ?_) | refine zag rfl ?_)
        refine za3 ?_
        clear L0 L1
        cases E
        ·
         go_wp2_with fail
         go_roundw
         case rel => exact ⟨q + 1, HQ.out, by go_num, (fun x hx => by
          rcases Nat.lt_succ_iff_lt_or_eq.1 hx with h | rfl
          ·
           exact HX.out x h
          ·
           rw [HLq.out]; exact HE.out.symm), G.out⟩
         case measure => simp [intOf]; have := HQ.out; omega
        ·
         have hF : Hid (r = false) := by show r = false; rw [← Bool.not_eq_true]; intro e; have := HRq.out e; rw [← HE.out] at this; cases this
         go_wp2_with fail
         go_ret
         exact ⟨by rw [hF.out]; first | done | rfl, zab HB.out G.out⟩
       ·
        obtain rfl : q = j := by omega
        have d1 : decide ((q : Int) < (q : Int)) = false := decide_eq_false (Int.lt_irrefl _)
        have d1' : decide (q < q) = false := decide_eq_false (Nat.lt_irrefl _)
        clear hqj
        go_wp2_with fail
        go_roundw
        case rel => exact ⟨q + 1, HLT.out, by go_num, (fun i hi => by
         rcases Nat.lt_succ_iff_lt_or_eq.1 hi with h | rfl
         ·
          exact HM.out i h
         ·
          exact ⟨HK.out, HX.out⟩), zab HB.out HI.out⟩
        case measure => simp [intOf]; have := HLT.out; omega
  ·
   obtain rfl : j = n := by omega
   have d0 : decide ((j : Int) < (j : Int)) = false := decide_eq_false (Int.lt_irrefl _)
   have d0' : decide (j < j) = false := decide_eq_false (Nat.lt_irrefl _)
   have hF : Hid (r = decide (j ≤ 16)) := by
    show r = _
    rw [HR.out, Bool.eq_iff_iff, zf9, decide_eq_true_iff, HL.out]
    exact ⟨fun h => h.2, fun h => ⟨HM.out, h⟩⟩
   have t1 : decide ((j : Int) ≤ 16) = r := by rw [hF.out]; exact decide_eq_decide.2 (by omega)
   have t1' : decide (j ≤ 16) = r := hF.out.symm
   clear hlt
   go_wp2_with fail
   go_ret
   exact ⟨rfl, HB.out⟩
theorem zzk (v : Value) (l : List Lk) (w : World) (h : SlE Elk w v l) (hn : l.length ≤ 1000) :
  Calls Tryz.prog 108 #[v] w fun e w' => e = .returned (.bool (mayL l)) ∧ Below w.heap.size w w' := by
 have k := h
 obtain ⟨p, cp, rfl, _⟩ := zal h
 exact z2g p _ cp l w k rfl hn
theorem zqi (p q r : Option Addr) (n cp m cq k cr : Nat) (l : List Nd) (v : Vt) (bal : List UInt64) (w : World) (h : SlE Ene w (.slice p n cp) l) (h1 : SlE Elt w (.slice q m cq) v.l) (h2 : SlE Enum w (.slice r k cr) bal) (hl : l.length = n) (hv : v.l.length = m) (hb : bal.length = k) (hn : n ≤ 1000) (hm : m ≤ 1000) (hk : k ≤ 1000) :
  Calls Tryz.prog 146 #[.agg (tr ⟨⟨p, n, cp⟩⟩), .agg (vo ⟨⟨q, m, cq⟩, v.out⟩), .slice r k cr] w fun e w' => e = .returned (.bool (fitB l v bal)) ∧ Below w.heap.size w w' := by
 have HA := Lib.hid (fun W (g : Below w.heap.size w W) => zev ⟨p, n, cp⟩ l W (zad g h) (by omega))
 have HV := Lib.hid (fun W (g : Below w.heap.size w W) => zzj ⟨q, m, cq⟩ v W (zad g h1) (by omega))
 have HC := Lib.hid (fun W (g : Below w.heap.size w W) => zjm (.slice r k cr) bal W (zad g h2) (by omega))
 obtain ⟨a, ha⟩ : ∃ a, a = decide (MayT l) := ⟨_, rfl⟩
 obtain ⟨b, hb'⟩ : ∃ b, b = mayV v := ⟨_, rfl⟩
 obtain ⟨c, hc⟩ : ∃ c, c = mayB bal := ⟨_, rfl⟩
 obtain ⟨x, hx⟩ : ∃ x, x = ((m : Int) == (k : Int)) := ⟨_, rfl⟩
 obtain ⟨z, hz⟩ : ∃ z, z = fitB l v bal := ⟨_, rfl⟩
 have HZ : Hid (z = (a && (b && (c && x)))) := by
  show z = _
  rw [hz, ha, hb', hc, hx]
  unfold fitB
  have : decide (v.l.length = bal.length) = ((m : Int) == (k : Int)) := by rw [Bool.eq_iff_iff, decide_eq_true_iff, beq_iff_eq, hv, hb]; omega
  rw [this]
 rw [← hz]
 rw [← ha] at HA
 rw [← hb'] at HV
 rw [← hc] at HC
 have tx : ((m : Int) == (k : Int)) = x := hx.symm
 obtain ⟨W0, hW0⟩ : ∃ W0, W0 = (w.alloc (.cells (tr ⟨⟨p, n, cp⟩⟩) 24)).alloc (.cells (vo ⟨⟨q, m, cq⟩, v.out⟩) 29) := ⟨_, rfl⟩
 obtain ⟨hB, k0, k1, hz0⟩ := zc2 w _ _ _ _ W0 hW0
 have HB := Lib.hid hB
 have HW := Lib.hid hW0
 have K0 := Lib.hid k0
 have K1 := Lib.hid k1
 clear hW0 h h1 h2 hl hv hb hn hm hk hB k0 k1 hz0 ha hb' hc hx hz
 go_enter Tryz.func146, Tryz.ntmps146
 have z1 := (zai K0.out).2.1
 have y1 := (zbo K1.out).2.2.1
 go_wp2_with fail
 rw [← HW.out]
 clear y1
 go_wp2_with fail
 refine (HA.out W0 HB.out).mono ?_
 rintro e w1 ⟨rfl, g1⟩
 have G1 := Lib.hid (zab HB.out g1)
 have N1 := Lib.hid (zac g1 K1.out)
 clear g1 z1
 have y1 := (zbo N1.out).2.2.1
 go_wp2_with fail
 refine (HV.out w1 G1.out).mono ?_
 rintro e w2 ⟨rfl, g2⟩
 have G2 := Lib.hid (zab G1.out g2)
 have N2 := Lib.hid (zac g2 N1.out)
 clear g2 y1
 go_wp2_with fail
 refine (HC.out w2 G2.out).mono ?_
 rintro e w3 ⟨rfl, g3⟩
 have G3 := Lib.hid (zab G2.out g3)
 have N3 := Lib.hid (zac g3 N2.out)
 clear g3
 have y0 := (zbo N3.out).1
 dsimp only at y0
 rw [za0] at y0
 cases a
 ·
  have hX : Hid (z = false) := HZ.out
  go_wp2_with fail
  go_ret
  exact ⟨by rw [hX.out]; first | done | rfl, G3.out⟩
 ·
  cases b
  ·
   have hX : Hid (z = false) := HZ.out
   go_wp2_with fail
   go_ret
   exact ⟨by rw [hX.out]; first | done | rfl, G3.out⟩
  ·
   cases c
   ·
    have hX : Hid (z = false) := HZ.out
    go_wp2_with fail
    go_ret
    exact ⟨by rw [hX.out]; first | done | rfl, G3.out⟩
   ·
    have hX : Hid (z = x) := HZ.out
    go_wp2_with fail
    go_ret
    exact ⟨by rw [hX.out]; first | done | rfl, G3.out⟩
open Go.RowKit
section
variable {P : Program} {ops : Array Oper} {E : List Nat} {L : World → World → Prop} {W : World} {Q : Exit → Act → World → Prop} {α : Type} {F : Lie α}
end
theorem zyx {B : Nat} {W : World} {b o n : Nat} {c : Array Value} (h : ldA W (.pointer (some ⟨b, o, none⟩)) n = some c) (hb : b < B) (p : WdB B W) : ldA p.w (.pointer (some ⟨b, o, none⟩)) n = some c := (ztl p.h b o n hb).trans h
theorem zuk (p q r : Option Addr) (n cp m cq cr : Nat) (l : List Nd) (v : Vt) (bal : List UInt64) (w : World) (h : SlE Ene w (.slice p n cp) l) (h1 : SlE Elt w (.slice q m cq) v.l) (h2 : SlE Enum w (.slice r m cr) bal) (hl : l.length = n) (hv : v.l.length = m) (hb : bal.length = m) (hf : fitB l v bal = true) :
  Calls Tryz.prog 109 #[.agg (tr ⟨⟨p, n, cp⟩⟩), .agg (vo ⟨⟨q, m, cq⟩, v.out⟩), .slice r m cr] w (NumsOk (ownL l v bal) true w) := by
 obtain ⟨hmt, hmv, hmb, _⟩ := zd5.1 hf
 have HF : Hid (∀ W, Below w.heap.size w W → Calls Tryz.prog 146 #[.agg (tr ⟨⟨p, n, cp⟩⟩), .agg (vo ⟨⟨q, m, cq⟩, v.out⟩), .slice r m cr] W fun e w' => e = .returned (.bool true) ∧ Below W.heap.size W w') := fun W g => by
  have := zqi p q r n cp m cq m cr l v bal W (zad g h) (zad g h1) (zad g h2) hl hv hb (by have := hmt.le; omega) (by have := (zb7.1 hmb).2.1; omega) (by have := (zb7.1 hmb).2.1; omega)
  rwa [hf] at this
 obtain ⟨W0, hW0⟩ : ∃ W0, W0 = (w.alloc (.cells (tr ⟨⟨p, n, cp⟩⟩) 24)).alloc (.cells (vo ⟨⟨q, m, cq⟩, v.out⟩) 29) := ⟨_, rfl⟩
 obtain ⟨hB, k0, k1, hz0⟩ := zc2 w _ _ _ _ W0 hW0
 have HB := Lib.hid hB
 have HW := Lib.hid hW0
 have K0 := Lib.hid k0
 have K1 := Lib.hid k1
 have HL := Lib.hid hl
 have HLV := Lib.hid hv
 have HLB := Lib.hid hb
 have HN : Hid (n ≤ 12 ∧ m ≤ 8) := by show n ≤ 12 ∧ m ≤ 8; have := hmt.le; have := (zb7.1 hmb).2.1; omega
 have HMB := Lib.hid hmb
 obtain ⟨b0, o0, rfl, _, x0⟩ := zcj h hmt.pos
 obtain ⟨b1, o1, rfl, _, x1⟩ := zf5 h1 (by have := (zcf.1 hmv).1; omega)
 obtain ⟨b2, o2, rfl, _, x2⟩ := zcm h2 (by have := (zcf.1 hmv).1; omega)
 have X0 := Lib.hid x0
 have X1 := Lib.hid x1
 have X2 := Lib.hid x2
 have HE : Hid (ownL l v bal = zcd (ownF l v bal) n) := by show _ = _; rw [zlv hf, hl]
 clear hW0 h h1 h2 hl hv hb hf hB k0 k1 hz0 x0 x1 x2 hmt hmv hmb
 go_enter Tryz.func109, Tryz.ntmps109
 have z1 := (zai K0.out).2.1
 have y1 := (zbo K1.out).2.2.1
 go_wp2_with fail
 rw [← HW.out]
 go_wp2_with fail
 refine (HF.out W0 HB.out).mono ?_
 rintro e w1 ⟨rfl, g1⟩
 have G1 := Lib.hid (zab HB.out g1)
 have M1 := Lib.hid (zac g1 K0.out)
 have N1 := Lib.hid (zac g1 K1.out)
 clear g1 z1 y1
 go_wp2_with fail
 go_loopw [9, 10] (fun u i wr => ∃ j : Nat, j ≤ n ∧ i = .int .i64 (j : Int) ∧ OwnE Enum wr w1.heap.size u (zcd (ownF l v bal) j) ∧ Below w1.heap.size w1 wr) (fun _ i _ => n - (intOf i).toNat)
 case atStart => exact ⟨0, Nat.zero_le _, rfl, za8 _ _ _, Below.refl _ _⟩
 case round =>
  obtain ⟨i, hi, rfl, hown, hb⟩ := hrel
  obtain ⟨wo, rfl⟩ : ∃ wo : World, wo = wr := ⟨_, rfl⟩
  have HO := Lib.hid hown
  have HBB := Lib.hid hb
  obtain ⟨pv, cv, rfl⟩ := zdh hown (zdg _ i)
  obtain ⟨z0, z1, zl⟩ := zai (zac hb M1.out)
  dsimp only at z0
  rw [za0] at z0
  clear hown hb z1 zl
  by_cases hlt : i < n
  ·
   have i0 : (0 : Int) ≤ (i : Int) := by omega
   have i1 : (i : Int) < (n : Int) := by omega
   have u1 : (i : Int) + 1 < 10000 := by have := HN.out.1; omega
   have HLT := Lib.hid hlt
   have HLn := Lib.hid (zdg (ownF l v bal) i)
   clear hlt
   go_wp2_with fail
   clear z0
   go_loopw [11, 12] (fun s k wr => ∃ j : Nat, j ≤ m ∧ k = .int .i64 (j : Int) ∧ s = .int .u64 (selF (forB l v i) (fn bal) j : Int) ∧ Below wo.heap.size wo wr) (fun _ k _ => m - (intOf k).toNat)
   case atStart => exact ⟨0, Nat.zero_le _, rfl, rfl, Below.refl _ _⟩
   case round =>
    obtain ⟨j, hj, rfl, rfl, hb⟩ := hrel
    have HI := Lib.hid hb
    clear hb
    by_cases hjt : j < m
    ·
     have j0 : (0 : Int) ≤ (j : Int) := by omega
     have j1 : (j : Int) < (m : Int) := by omega
     have v1 : (j : Int) + 1 < 10000 := by have := HN.out.2; omega
     have HJT := Lib.hid hjt
     have GW := Lib.hid (zab G1.out (zab HBB.out HI.out))
     obtain ⟨z0, z1, zl⟩ := zai (zac (zab HBB.out HI.out) M1.out)
     dsimp only at z0
     rw [za0] at z0
     have y0 := (zbo (zac (zab HBB.out HI.out) N1.out)).1
     dsimp only at y0
     rw [za0] at y0
     have yh := zrc (zbu GW.out X1.out) (i := j) (by have := HLV.out; omega)
     have yr := ztk (zbu GW.out X1.out) (i := j) (by have := HLV.out; omega)
     have yn := zdf (zbu GW.out X0.out) (i := i) (by have := HL.out; have := HLT.out; omega)
     have yb := zbt (zbu GW.out X2.out) (i := j) (by have := HLB.out; omega)
     have hs1 := zjn HMB.out (forB l v i) (k := j) (by have := HLB.out; omega)
     have hs2 := zjn HMB.out (fun k => decide (k = j)) (k := j + 1) (by have := HLB.out; omega)
     have hs3 : fn bal j ≤ 1099511627776 := (zb7.1 HMB.out).2.2 j (by have := HLB.out; omega)
     obtain ⟨H, hH⟩ : ∃ H, H = (lat v.l j).has := ⟨_, rfl⟩
     obtain ⟨E, hE⟩ : ∃ E, E = decide ((lat v.l j).root = (nd l i).root) := ⟨_, rfl⟩
     rw [← hH] at yh
     have HF2 : Hid (forB l v i j = (H && E)) := by show forB l v i j = _; unfold forB; rw [hH, hE]
     have HX2 : Hid (∀ x : Nat, x = selF (forB l v i) (fn bal) j → x ≤ 8796093022208) := fun x hx => by rw [hx]; exact hs1
     obtain ⟨X, hX⟩ : ∃ X, X = selF (forB l v i) (fn bal) j := ⟨_, rfl⟩
     obtain ⟨Y, hY⟩ : ∃ Y, Y = fn bal j := ⟨_, rfl⟩
     rw [← hX] at hs1
     rw [← hY] at hs3 yb
     have HSy : Hid (forB l v i j = true → selF (forB l v i) (fn bal) (j + 1) = X + Y) := fun e => by rw [hX, hY]; exact zzq e
     have HSn : Hid (forB l v i j = false → selF (forB l v i) (fn bal) (j + 1) = X) := fun e => by rw [hX]; exact zxk e
     rw [← hX]
     generalize (lat v.l j).root = R1 at *
     generalize (nd l i).root = R2 at *
     have tE : eqB R1 R2 = E := hE.symm
     have hU : Unit → (X : Int) + (Y : Int) < 18446744073709551616 := fun _ => by omega
     clear hjt hs1 hs2 hs3 hX hY hH hE z1 zl HX2
     cases H
     ·
      have HEn : Hid (selF (forB l v i) (fn bal) (j + 1) = X) := HSn.out (by rw [HF2.out]; rfl)
      go_wp2_with fail
      go_quiet (fail)
      go_wp2_with fail
      go_roundw
      case rel => exact ⟨j + 1, HJT.out, by go_num, by rw [HEn.out], zah HI.out _⟩
      case measure => simp [intOf]; have := HJT.out; omega
     ·
      cases E
      ·
       have HEn : Hid (selF (forB l v i) (fn bal) (j + 1) = X) := HSn.out (by rw [HF2.out]; rfl)
       go_wp2_with fail
       go_quiet (fail)
       go_wp2_with fail
       go_roundw
       case rel => exact ⟨j + 1, HJT.out, by go_num, by rw [HEn.out], zah HI.out _⟩
       case measure => simp [intOf]; have := HJT.out; omega
      ·
       have HEn : Hid (selF (forB l v i) (fn bal) (j + 1) = X + Y) := HSy.out (by rw [HF2.out]; rfl)
       go_wp2_with fail
       go_quiet (fail)
       go_wp2_with fail
       go_roundw
       case rel => exact ⟨j + 1, HJT.out, by go_num, by rw [HEn.out, IntKind.wrap_u64, Int.natCast_add, Int.emod_eq_of_lt (by omega) (hU ())], zah HI.out _⟩
       case measure => simp [intOf]; have := HJT.out; omega
    ·
     obtain rfl : j = m := by omega
     have HEv : Hid (selF (forB l v i) (fn bal) j = ownF l v bal i) := by show selF _ _ j = _; rw [← HLB.out]; rfl
     have O3 := Lib.hid (za5 HI.out HO.out)
     have hs1 := zjn HMB.out (forB l v i) (k := j) (by have := HLB.out; omega)
     obtain ⟨x, hx⟩ : ∃ x, x = selF (forB l v i) (fn bal) j := ⟨_, rfl⟩
     rw [← hx] at HEv hs1
     rw [← hx]
     have HXs : Hid (x < 18446744073709551616) := by show x < _; omega
     clear hjt hx hs1
     go_wp2_with (at_builtin; refine za1 Knum _ rfl (.tmp 59) (.tmp 61) rfl w1.heap.size _ (zcd (ownF l v bal) i) rfl (zaw O3.out _) _ [UInt64.ofNat x] rfl (zgb _ HXs.out _ rfl) (by have := HLn.out; have := HN.out.1; have := HLT.out; simp; omega) (by have := HBB.out.size; have := HI.out.size; simp; omega) ?_; intro v2 w4 ho4 hg4)
     go_roundw
     case rel => exact ⟨i + 1, HLT.out, by go_num, by rw [zjg, ← HEv.out]; exact ho4, (zab HBB.out (zab HI.out below1)).trans (hg4.own (zaw O3.out _) (by have := HBB.out.size; have := HI.out.size; simp; omega))⟩
     case measure => simp [intOf]; have := HLT.out; omega
  ·
   obtain rfl : i = n := by omega
   clear hlt
   go_wp2_with fail
   go_ret2
   exact ⟨_, rfl, by rw [HE.out]; exact zbi HO.out G1.out.size, zab G1.out HBB.out⟩
theorem zxd (p q r : Option Addr) (n cp m cq k cr : Nat) (l : List Nd) (v : Vt) (bal : List UInt64) (w : World) (h : SlE Ene w (.slice p n cp) l) (h1 : SlE Elt w (.slice q m cq) v.l) (h2 : SlE Enum w (.slice r k cr) bal) (hl : l.length = n) (hv : v.l.length = m) (hb : bal.length = k) (hn : n ≤ 1000) (hm : m ≤ 1000) (hk : k ≤ 1000) (hf : fitB l v bal = false) :
  Calls Tryz.prog 109 #[.agg (tr ⟨⟨p, n, cp⟩⟩), .agg (vo ⟨⟨q, m, cq⟩, v.out⟩), .slice r k cr] w (NumsOk [] false w) := by
 have HF : Hid (∀ W, Below w.heap.size w W → Calls Tryz.prog 146 #[.agg (tr ⟨⟨p, n, cp⟩⟩), .agg (vo ⟨⟨q, m, cq⟩, v.out⟩), .slice r k cr] W fun e w' => e = .returned (.bool false) ∧ Below W.heap.size W w') := fun W g => by
  have := zqi p q r n cp m cq k cr l v bal W (zad g h) (zad g h1) (zad g h2) hl hv hb hn hm hk
  rwa [hf] at this
 obtain ⟨W0, hW0⟩ : ∃ W0, W0 = (w.alloc (.cells (tr ⟨⟨p, n, cp⟩⟩) 24)).alloc (.cells (vo ⟨⟨q, m, cq⟩, v.out⟩) 29) := ⟨_, rfl⟩
 obtain ⟨hB, k0, k1, hz0⟩ := zc2 w _ _ _ _ W0 hW0
 have HB := Lib.hid hB
 have HW := Lib.hid hW0
 have z1 := (zai k0).2.1
 have y1 := (zbo k1).2.2.1
 clear hW0 h h1 h2 hl hv hb hf hB k0 k1 hz0 hn hm hk
 go_enter Tryz.func109, Tryz.ntmps109
 go_wp2_with fail
 rw [← HW.out]
 go_wp2_with fail
 refine (HF.out W0 HB.out).mono ?_
 rintro e w1 ⟨rfl, g1⟩
 have G1 := Lib.hid (zab HB.out g1)
 clear g1 z1 y1
 go_wp2_with fail
 go_ret2
 exact ⟨_, rfl, za8 _ _ _, G1.out⟩
theorem yca (s t : SlV) (u : Value) (l : List Nd) (v : Vt) (bal : List UInt64) (w : World) (h : SlE Ene w (sv s) l) (h1 : SlE Elt w (sv t) v.l) (h2 : SlE Enum w u bal) (hn : l.length ≤ 1000) (hm : v.l.length ≤ 1000) (hk : bal.length ≤ 1000) :
  Calls Tryz.prog 109 #[.agg (tr ⟨s⟩), .agg (vo ⟨t, v.out⟩), u] w (NumsOk (ownL l v bal) (fitB l v bal) w) := by
 have hl := zbk h
 have hv := zg8 h1
 obtain ⟨p, n, cp⟩ := s
 obtain ⟨q, m, cq⟩ := t
 dsimp only at hl hv
 obtain ⟨r, cr, rfl, _⟩ := zal h2
 by_cases hf : fitB l v bal = true
 ·
  have e := (zd5.1 hf).2.2.2
  rw [hf]
  have e2 : bal.length = m := e.symm.trans hv
  rw [e2] at h2 ⊢
  exact zuk p q r n cp m cq cr l v bal w h h1 h2 hl hv e2 hf
 ·
  have hf' : fitB l v bal = false := by simpa using hf
  rw [hf', z62 hf']
  exact zxd p q r n cp m cq _ cr l v bal w h h1 h2 hl hv rfl (by omega) (by omega) hk hf'
def zht (a b : Nat) : Bool := decide (a + b < 18446744073709551616)
def addV (a b : Nat) : Nat := if a + b < 18446744073709551616 then a + b else 0
theorem yb4 (a b : Nat) (ha : a < 18446744073709551616) (hb : b < 18446744073709551616) (w : World) :
  Calls Tryz.prog 147 #[.int .u64 (a : Int), .int .u64 (b : Int)] w fun e w' => e = .returned (.tuple #[.int .u64 (addV a b : Int), .bool (zht a b)]) ∧ Below w.heap.size w w' := by
 have hb1 : (0 : Int) ≤ 18446744073709551615 - (b : Int) := by omega
 have ua : (a : Int) < 18446744073709551616 := by omega
 have ub : (b : Int) < 18446744073709551616 := by omega
 by_cases h : a + b < 18446744073709551616
 ·
  rw [show addV a b = a + b from if_pos h, show zht a b = true from decide_eq_true h]
  have t1 : decide (18446744073709551615 - (b : Int) < (a : Int)) = false := decide_eq_false (by omega)
  have u1 : (a : Int) + (b : Int) < 18446744073709551616 := by omega
  clear h ha hb
  go_enter Tryz.func147, Tryz.ntmps147
  go_wp2_with fail
  go_ret2
  exact ⟨by first | done | rfl, Below.refl _ _⟩
 ·
  rw [show addV a b = 0 from if_neg h, show zht a b = false from decide_eq_false h]
  have t1 : decide (18446744073709551615 - (b : Int) < (a : Int)) = true := decide_eq_true (by omega)
  clear h ha hb
  go_enter Tryz.func147, Tryz.ntmps147
  go_wp2_with fail
  go_ret2
  exact ⟨by first | done | rfl, Below.refl _ _⟩
end Go.Proofs.YtkalofboioffiaaGreat
