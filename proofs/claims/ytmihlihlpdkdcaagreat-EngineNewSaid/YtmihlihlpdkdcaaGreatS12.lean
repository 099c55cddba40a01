import Derived.Test.YtmihlihlpdkdcaaGreatS10
import Derived.Deep.Cut
import Derived.Laws.Cover3
import Derived.Test.YtmihlihlpdkdcaaGreatS06
import Derived.Test.YtmihlihlpdkdcaaGreatS07
import Derived.Test.YtmihlihlpdkdcaaGreatS04
import Derived.Test.YtmihlihlpdkdcaaGreatS08
import Derived.Test.YtmihlihlpdkdcaaGreatS09
import Derived.Deep.CutRange
import Derived.Deep.RegionLaw
namespace Go.Proofs.YtmihlihlpdkdcaaGreat
open Go.RowKit
set_option maxRecDepth 200000
set_option maxHeartbeats 64000000
theorem z55 (p q : Option Addr) (n m cl ck : Nat) (w : World) (hl : n ≠ m) :
  Calls Tryz.prog 38 #[.agg (tr ⟨⟨p, n, cl⟩⟩), .agg (tr ⟨⟨q, m, ck⟩⟩)] w fun e w' => e = .returned (.bool false) ∧ Below w.heap.size w w' := by
 have HB : Hid (Below w.heap.size w ((w.alloc (.cells (tr ⟨⟨p, n, cl⟩⟩) 28)).alloc (.cells (tr ⟨⟨q, m, ck⟩⟩) 28))) := zad below1 below1
 have e1 : ((n : Int) == (m : Int)) = false := by simp; omega
 clear hl
 go_enter Tryz.func38, Tryz.ntmps38
 go_wp2_with fail
 go_ret
 exact ⟨rfl, HB.out⟩
theorem z5w (p q : Option Addr) (n cl ck : Nat) (l k : List Nd) (w : World) (h : SlE Ene w (.slice p n cl) l) (h' : SlE Ene w (.slice q n ck) k) (hl : l.length = n) (hk : k.length = n) (hn : n ≤ 1000) :
  Calls Tryz.prog 38 #[.agg (tr ⟨⟨p, n, cl⟩⟩), .agg (tr ⟨⟨q, n, ck⟩⟩)] w fun e w' => e = .returned (.bool (decide (l = k))) ∧ Below w.heap.size w w' := by
 have HL := Lib.hid hl
 have HK := Lib.hid hk
 have HN := Lib.hid hn
 obtain ⟨r, hr⟩ : ∃ r, r = decide (l = k) := ⟨_, rfl⟩
 rw [← hr]
 have HR := Lib.hid hr
 obtain ⟨W0, hW0⟩ : ∃ W0, W0 = (w.alloc (.cells (tr ⟨⟨p, n, cl⟩⟩) 28)).alloc (.cells (tr ⟨⟨q, n, ck⟩⟩) 28) := ⟨_, rfl⟩
 have HB : Hid (Below w.heap.size w W0) := by rw [hW0]; exact zad below1 below1
 have M0 : Hid (W0.heap[w.heap.size]? = some (.cells (tr ⟨⟨p, n, cl⟩⟩) 28 (0, 0))) := by rw [hW0]; exact zab below1 (heap_alloc_last w _)
 have N0 : Hid (W0.heap[w.heap.size + 1]? = some (.cells (tr ⟨⟨q, n, ck⟩⟩) 28 (0, 0))) := by
  show W0.heap[w.heap.size + 1]? = _
  rw [hW0]
  have := heap_alloc_last (w.alloc (.cells (tr ⟨⟨p, n, cl⟩⟩) 28)) (.cells (tr ⟨⟨q, n, ck⟩⟩) 28 (0, 0))
  rwa [World.size_alloc] at this
 have HS := Lib.hid (zac HB.out h)
 have HT := Lib.hid (zac HB.out h')
 have HW := Lib.hid hW0
 clear h h' hl hk hn hr hW0
 go_enter Tryz.func38, Tryz.ntmps38
 go_wp2_with fail
 rw [← HW.out]
 go_loopw [5] (fun i wr => ∃ j : Nat, j ≤ n ∧ i = .int .i64 j ∧ (∀ x, x < j → nd l x = nd k x) ∧ Below W0.heap.size W0 wr) (fun i _ => n - (intOf i).toNat)
 case atStart => exact ⟨0, Nat.zero_le _, rfl, fun x hx => absurd hx (Nat.not_lt_zero _), Below.refl _ _⟩
 case round =>
  obtain ⟨j, hj, rfl, hx, hb⟩ := hrel
  have HX := Lib.hid hx
  have HBB := Lib.hid hb
  obtain ⟨z0, z1, zl⟩ := zaz (zab hb M0.out)
  obtain ⟨z3, z4, zl2⟩ := zaz (zab hb N0.out)
  dsimp only at z0 z3
  rw [zav] at z0 z3
  clear hx hb
  by_cases hlt : j < n
  ·
   have i0 : (0 : Int) ≤ (j : Int) := by omega
   have i1 : (j : Int) < (n : Int) := by omega
   have u1 : (j : Int) + 1 < 10000 := by have := HN.out; omega
   obtain ⟨b1, o1, c1, e1, _, q1, x1⟩ := zce HS.out (by have := HL.out; omega)
   injection e1 with e2 _ e3
   subst e2 e3
   obtain ⟨b2, o2, c2, e1, _, q2, x2⟩ := zce HT.out (by have := HK.out; omega)
   injection e1 with e2 _ e3
   subst e2 e3
   have y1 : ldA wr (.pointer (some ⟨b1, o1 + j * 35, none⟩)) 35 = some (ne (nd l j)) := keep HBB.out (zpp x1 (by have := HL.out; omega))
   have y2 : ldA wr (.pointer (some ⟨b2, o2 + j * 35, none⟩)) 35 = some (ne (nd k j)) := keep HBB.out (zpp x2 (by have := HK.out; omega))
   clear x1 x2 q1 q2
   by_cases he : nd l j = nd k j
   ·
    have HE := Lib.hid he
    rw [he] at y1
    clear he
    go_wp2_with fail
    go_quiet (fail)
    go_wp2_with fail
    go_roundw
    case rel => exact ⟨j + 1, by omega, by go_num, fun x hx => by
     rcases Nat.lt_succ_iff_lt_or_eq.1 hx with h | rfl
     ·
      exact HX.out x h
     ·
      exact HE.out, zar HBB.out _⟩
    case measure => simp [intOf]; omega
   ·
    have hR : Hid (r = false) := by
     show r = false
     rw [HR.out, decide_eq_false_iff_not]
     intro e; exact he (by rw [e])
    have t1 : decide (nd l j = nd k j) = false := decide_eq_false he
    clear he
    go_wp2_with fail
    go_quiet (fail)
    go_wp2_with fail
    go_ret
    exact ⟨by rw [hR.out]; first | done | rfl, zad HB.out (zar HBB.out _)⟩
  ·
   obtain rfl : j = n := by omega
   have hR : Hid (r = true) := by
    show r = true
    rw [HR.out, decide_eq_true_iff]
    exact yjy (by rw [HL.out, HK.out]) fun i hi => HX.out i (by have := HK.out; omega)
   go_wp2_with fail
   go_ret
   exact ⟨by rw [hR.out]; first | done | rfl, zad HB.out HBB.out⟩
theorem yng (s t : SlV) (l k : List Nd) (w : World) (h : SlE Ene w (sv s) l) (h' : SlE Ene w (sv t) k) (hn : l.length ≤ 1000) :
  Calls Tryz.prog 38 #[.agg (tr ⟨s⟩), .agg (tr ⟨t⟩)] w fun e w' => e = .returned (.bool (decide (l = k))) ∧ Below w.heap.size w w' := by
 have hs := zc6 h
 have ht := zc6 h'
 obtain ⟨p, n, cl⟩ := s
 obtain ⟨q, m, ck⟩ := t
 dsimp only at hs ht
 by_cases e : n = m
 ·
  subst e
  exact z5w p q n cl ck l k w h h' hs ht (by omega)
 ·
  rw [decide_eq_false (fun he => e (by rw [← hs, ← ht, he]))]
  exact z55 p q n m cl ck w e
open Go.RowKit
section
variable {w W W' : World} {T : Nat} {s : SlV} {v : Vt}
structure Vw (w W : World) (T : Nat) (s : SlV) (v : Vt) : Prop where
 box : W.heap[T]? = some (.cells (vo ⟨s, v.out⟩) 32 (0, 0))
 s : SlE Elt W (sv s) v.l
 g : Below w.heap.size w W
theorem Vw.keep (h : Vw w W T s v) (g : Below W.heap.size W W') : Vw w W' T s v := ⟨zab g h.box, zac g h.s, zad h.g g⟩
theorem Vw.z1 (h : Vw w W T s v) : ldA W (.pointer (some ⟨T, 0, none⟩)) 2 = some (vo ⟨s, v.out⟩) := (zba h.box).2.2.1
theorem Vw.z0 (h : Vw w W T s v) : W.cell? ⟨T, 0, none⟩ = some (sv s) := (zba h.box).1
theorem Vw.zo (h : Vw w W T s v) : W.cell? ⟨T, 1, none⟩ = some (.int .u64 (v.out.toNat : Int)) := (zba h.box).2.1
theorem yqh (h : SlE Elt w (sv s) v.l) : Vw w (w.alloc (.cells (vo ⟨s, v.out⟩) 32)) w.heap.size s v := ⟨heap_alloc_last w _, zac below1 h, below1⟩
end
theorem ykl {w W : World} {s s' : SlV} {v u : Vt} (hW : W = (w.alloc (.cells (vo ⟨s, v.out⟩) 32)).alloc (.cells (vo ⟨s', u.out⟩) 32)) (h : SlE Elt w (sv s) v.l) (h' : SlE Elt w (sv s') u.l) : Vw w W w.heap.size s v ∧ Vw w W (w.heap.size + 1) s' u := by
 obtain ⟨g, m, n, _⟩ := zdz w _ _ _ _ W hW
 exact ⟨⟨m, zac g h, g⟩, ⟨n, zac g h', g⟩⟩
theorem z0m (p q : Option Addr) (n m cl ck : Nat) (v u : Vt) (w : World) (h : SlE Elt w (.slice p n cl) v.l) (h' : SlE Elt w (.slice q m ck) u.l) (hl : v.l.length = n) (hk : u.l.length = m) (hn : n ≤ 1000) :
  Calls Tryz.prog 39 #[.agg (vo ⟨⟨p, n, cl⟩, v.out⟩), .agg (vo ⟨⟨q, m, ck⟩, u.out⟩)] w fun e w' => e = .returned (.bool (decide (v = u))) ∧ Below w.heap.size w w' := by
 obtain ⟨W0, hW0⟩ : ∃ W0, W0 = (w.alloc (.cells (vo ⟨⟨p, n, cl⟩, v.out⟩) 32)).alloc (.cells (vo ⟨⟨q, m, ck⟩, u.out⟩) 32) := ⟨_, rfl⟩
 obtain ⟨a0, b0⟩ := ykl hW0 h h'
 have A := Lib.hid a0
 have B := Lib.hid b0
 have HW := Lib.hid hW0
 have HL := Lib.hid hl
 have HK := Lib.hid hk
 have HN := Lib.hid hn
 obtain ⟨r, hr⟩ : ∃ r, r = decide (v = u) := ⟨_, rfl⟩
 rw [← hr]
 have HR := Lib.hid hr
 have z0 := a0.z0
 have z1 := b0.z0
 have z2 := a0.zo
 have z3 := b0.zo
 rw [zav] at z0 z1
 by_cases hnm : n = m
 ·
  subst hnm
  by_cases ho : v.out = u.out
  ·
   have HO := Lib.hid ho
   rw [ho] at z2
   clear a0 b0 hW0 h h' hl hk hn hr ho
   go_enter Tryz.func39, Tryz.ntmps39
   go_upto_region 1 with fail
   rw [← HW.out]
   go_wp2_with fail
   clear z0 z1 z2 z3
   go_loopw [5] (fun i wr => ∃ j : Nat, j ≤ n ∧ i = .int .i64 j ∧ (∀ x, x < j → lat v.l x = lat u.l x) ∧ Vw w wr w.heap.size ⟨p, n, cl⟩ v ∧ Vw w wr (w.heap.size + 1) ⟨q, n, ck⟩ u) (fun i _ => n - (intOf i).toNat)
   case atStart => exact ⟨0, Nat.zero_le _, rfl, fun x hx => absurd hx (Nat.not_lt_zero _), A.out, B.out⟩
   case round =>
    obtain ⟨j, hj, rfl, hx, hA, hB⟩ := hrel
    have HX := Lib.hid hx
    replace A := Lib.hid hA
    replace B := Lib.hid hB
    clear hx hA hB
    have z0 := A.out.z0
    have z1 := B.out.z0
    rw [zav] at z0 z1
    by_cases hlt : j < n
    ·
     have i0 : (0 : Int) ≤ (j : Int) := by omega
     have i1 : (j : Int) < (n : Int) := by omega
     have u1 : (j : Int) + 1 < 10000 := by have := HN.out; omega
     obtain ⟨b1, o1, rfl, _, x1⟩ := zgl A.out.s (by rw [HL.out]; omega)
     obtain ⟨b2, o2, rfl, _, x2⟩ := zgl B.out.s (by rw [HK.out]; omega)
     have y1 := zgt x1 (i := j) (by rw [HL.out]; exact hlt)
     have y2 := zgt x2 (i := j) (by rw [HK.out]; exact hlt)
     clear x1 x2
     by_cases he : lat v.l j = lat u.l j
     ·
      have HE := Lib.hid he
      rw [he] at y1
      clear he
      go_wp2_with fail
      go_quiet (fail)
      go_wp2_with fail
      go_roundw
      case rel => exact ⟨j + 1, by omega, by go_num, fun x hx => by
       rcases Nat.lt_succ_iff_lt_or_eq.1 hx with h | rfl
       ·
        exact HX.out x h
       ·
        exact HE.out, A.out.keep (zar (Below.refl _ _) _), B.out.keep (zar (Below.refl _ _) _)⟩
      case measure => simp [intOf]; omega
     ·
      have hR : Hid (r = false) := by
       show r = false
       rw [HR.out, decide_eq_false_iff_not]
       intro e; exact he (by rw [e])
      have t1 : decide (lat v.l j = lat u.l j) = false := decide_eq_false he
      clear he
      go_wp2_with fail
      go_quiet (fail)
      go_wp2_with fail
      go_ret
      exact ⟨by rw [hR.out]; first | done | rfl, zar A.out.g _⟩
    ·
     obtain rfl : j = n := by omega
     have hR : Hid (r = true) := by
      show r = true
      rw [HR.out, decide_eq_true_iff]
      exact Vt.ext (z03 (by rw [HL.out, HK.out]) fun i hi => HX.out i (by have := HK.out; omega)) HO.out
     go_wp2_with fail
     go_ret
     exact ⟨by rw [hR.out]; first | done | rfl, A.out.g⟩
  ·
   have hR : Hid (r = false) := by
    show r = false
    rw [hr, decide_eq_false_iff_not]
    intro e; exact ho (by rw [e])
   obtain ⟨a, ha⟩ : ∃ a, a = (v.out.toNat : Int) := ⟨_, rfl⟩
   obtain ⟨b, hb⟩ : ∃ b, b = (u.out.toNat : Int) := ⟨_, rfl⟩
   have t1 : (a != b) = true := by
    rw [bne_iff_ne, ha, hb]
    intro e; exact ho (UInt64.toNat_inj.1 (by omega))
   rw [← ha] at z2
   rw [← hb] at z3
   clear a0 b0 hW0 h h' hl hk hn hr ho ha hb
   go_enter Tryz.func39, Tryz.ntmps39
   go_upto_region 1 with fail
   rw [← HW.out]
   go_wp2_with fail
   go_ret
   exact ⟨by rw [hR.out]; first | done | rfl, A.out.g⟩
 ·
  have hR : Hid (r = false) := by
   show r = false
   rw [hr, decide_eq_false_iff_not]
   intro e; exact hnm (by rw [← hl, ← hk, e])
  have t1 : ((n : Int) != (m : Int)) = true := by rw [bne_iff_ne]; omega
  clear a0 b0 hW0 h h' hl hk hn hr hnm z2 z3
  go_enter Tryz.func39, Tryz.ntmps39
  go_upto_region 1 with fail
  rw [← HW.out]
  go_wp2_with fail
  go_ret
  exact ⟨by rw [hR.out]; first | done | rfl, A.out.g⟩
theorem ya3 (s s' : SlV) (v u : Vt) (w : World) (h : SlE Elt w (sv s) v.l) (h' : SlE Elt w (sv s') u.l) (hn : v.l.length ≤ 1000) :
  Calls Tryz.prog 39 #[.agg (vo ⟨s, v.out⟩), .agg (vo ⟨s', u.out⟩)] w fun e w' => e = .returned (.bool (decide (v = u))) ∧ Below w.heap.size w w' := by
 have hl := zf3 h
 have hk := zf3 h'
 obtain ⟨p, n, cp⟩ := s
 obtain ⟨q, m, ck⟩ := s'
 dsimp only at hl hk
 exact z0m p q n m cp ck v u w h h' hl hk (by omega)
theorem z19 (p q : Option Addr) (n m cl ck : Nat) (w : World) (hl : n ≠ m) :
  Calls Tryz.prog 40 #[.slice p n cl, .slice q m ck] w fun e w' => e = .returned (.bool false) ∧ Below w.heap.size w w' := by
 have e1 : ((n : Int) == (m : Int)) = false := by simp; omega
 clear hl
 go_enter Tryz.func40, Tryz.ntmps40
 go_wp2_with fail
 go_ret
 exact ⟨rfl, Below.refl _ _⟩
theorem z2e (p q : Option Addr) (n cl ck : Nat) (l k : List UInt64) (w : World) (h : SlE Enum w (.slice p n cl) l) (h' : SlE Enum w (.slice q n ck) k) (hl : l.length = n) (hk : k.length = n) (hn : n ≤ 1000) :
  Calls Tryz.prog 40 #[.slice p n cl, .slice q n ck] w fun e w' => e = .returned (.bool (decide (l = k))) ∧ Below w.heap.size w w' := by
 have HS := Lib.hid h
 have HT := Lib.hid h'
 have HL := Lib.hid hl
 have HK := Lib.hid hk
 have HN := Lib.hid hn
 obtain ⟨r, hr⟩ : ∃ r, r = decide (l = k) := ⟨_, rfl⟩
 rw [← hr]
 have HR := Lib.hid hr
 clear h h' hl hk hn hr
 go_enter Tryz.func40, Tryz.ntmps40
 go_wp2_with fail
 go_loopw [5] (fun i wr => ∃ j : Nat, j ≤ n ∧ i = .int .i64 (j : Int) ∧ (∀ x, x < j → fn l x = fn k x) ∧ Below w.heap.size w wr) (fun i _ => n - (intOf i).toNat)
 case atStart => exact ⟨0, Nat.zero_le _, rfl, fun x hx => absurd hx (Nat.not_lt_zero _), Below.refl _ _⟩
 case round =>
  obtain ⟨j, hj, rfl, hx, hb⟩ := hrel
  have HX := Lib.hid hx
  have HB := Lib.hid hb
  clear hx hb
  by_cases hlt : j < n
  ·
   have i0 : (0 : Int) ≤ (j : Int) := by omega
   have i1 : (j : Int) < (n : Int) := by omega
   have u1 : (j : Int) + 1 < 10000 := by have := HN.out; omega
   obtain ⟨b1, o1, rfl, q1, x1⟩ := zco (zac HB.out HS.out) (by have := HL.out; omega)
   obtain ⟨b2, o2, rfl, q2, x2⟩ := zco (zac HB.out HT.out) (by have := HK.out; omega)
   have y1 := zb1 x1 (i := j) (by have := HL.out; omega)
   have y2 := zb1 x2 (i := j) (by have := HK.out; omega)
   clear x1 x2 q1 q2
   obtain ⟨yl, hyl⟩ : ∃ y, y = fn l j := ⟨_, rfl⟩
   obtain ⟨yk, hyk⟩ : ∃ y, y = fn k j := ⟨_, rfl⟩
   rw [← hyl] at y1
   rw [← hyk] at y2
   have HYl := Lib.hid hyl
   have HYk := Lib.hid hyk
   clear hyl hyk
   by_cases he : yl = yk
   ·
    have HE : Hid (fn l j = fn k j) := by show _ = _; rw [← HYl.out, ← HYk.out]; exact he
    rw [he] at y1
    clear he
    go_wp2_with fail
    go_quiet (fail)
    go_wp2_with fail
    go_roundw
    case rel => exact ⟨j + 1, by omega, by go_num, fun x hx => by
     rcases Nat.lt_succ_iff_lt_or_eq.1 hx with h | rfl
     ·
      exact HX.out x h
     ·
      exact HE.out, zar HB.out _⟩
    case measure => simp [intOf]; omega
   ·
    have hR : Hid (r = false) := by
     show r = false
     rw [HR.out, decide_eq_false_iff_not]
     intro e
     exact he (by rw [HYl.out, HYk.out, e])
    have t1 : ((yl : Int) == (yk : Int)) = false := by rw [beq_eq_false_iff_ne]; omega
    have t1' : ((yl : Int) != (yk : Int)) = true := by rw [bne_iff_ne]; omega
    clear he
    go_wp2_with fail
    go_quiet (fail)
    go_wp2_with fail
    go_ret
    exact ⟨by rw [hR.out]; first | done | rfl, zar HB.out _⟩
  ·
   obtain rfl : j = n := by omega
   have hR : Hid (r = true) := by
    show r = true
    rw [HR.out, decide_eq_true_iff]
    exact zp7 (by rw [HL.out, HK.out]) fun i hi => HX.out i (by have := HK.out; omega)
   go_wp2_with fail
   go_ret
   exact ⟨by rw [hR.out]; first | done | rfl, HB.out⟩
theorem zzi (v u : Value) (l k : List UInt64) (w : World) (h : SlE Enum w v l) (h' : SlE Enum w u k) (hn : l.length ≤ 1000) :
  Calls Tryz.prog 40 #[v, u] w fun e w' => e = .returned (.bool (decide (l = k))) ∧ Below w.heap.size w w' := by
 have hs := h
 have ht := h'
 obtain ⟨p, cl, rfl, _⟩ := zaf h
 obtain ⟨q, ck, rfl, _⟩ := zaf h'
 by_cases e : l.length = k.length
 ·
  rw [← e] at ht ⊢
  exact z2e p q l.length cl ck l k w hs ht rfl e.symm hn
 ·
  rw [decide_eq_false (fun he => e (by rw [he]))]
  exact z19 p q _ _ cl ck w e
theorem zul {w : World} {p : Option Addr} {n cp : Nat} {l : List Aa} (h : SlE Eaa w (.slice p n cp) l) (h0 : 0 < l.length) : ∃ b o, p = some ⟨b, o, none⟩ ∧ b < w.heap.size ∧ w.rangeAt b o (zam Eaa l) := by
 obtain ⟨b, o, c, e, _, q, x⟩ := zce h h0
 injection e with e1 e2 e3
 exact ⟨b, o, e1, q, x⟩
theorem zj5 {w : World} {b off : Nat} {l : List Aa} (h : w.rangeAt b off (zam Eaa l)) {i : Nat} (hi : i < l.length) : ldA w (.pointer (some ⟨b, off + i * 100, none⟩)) 100 = some (aa (att l i)) := by
 have := zqq h hi
 rw [zlj hi]
 exact this.trans (by rw [show (Eaa.enc l[i]).toArray = aa l[i] from Array.toList_inj.1 (by rw [zv5]; rfl)])
theorem ya1 {l k : List Aa} (hl : l.length = k.length) (h : ∀ i, i < k.length → att l i = att k i) : l = k := by
 refine List.ext_getElem hl fun i h1 h2 => ?_
 have := h i h2
 rwa [zlj h1, zlj h2] at this
theorem KaaB : zh3 Tryz.prog Eaa 33 128 := ⟨Tryz.underlying33, .agg (aa zaa), yd2, by show ((aa zaa)).size = _; exact zf1 _⟩
def yet (L : List Aa) (n : Nat) (w : World) (e : Ending) (w' : World) : Prop := ∃ v, e = .returned (.tuple #[v, .int .i64 (n : Int)]) ∧ SlE Eaa w' v L ∧ Below w.heap.size w w'
def zuq (L K : List Aa) (w : World) (e : Ending) (w' : World) : Prop := ∃ v u, e = .returned (.tuple #[v, u]) ∧ SlE Eaa w' v L ∧ SlE Eaa w' u K ∧ Below w.heap.size w w'
theorem z0s (w : World) (x : Aa) (b : Nat) (hb : b = w.heap.size) : SlE Eaa (w.alloc (.cells (aa x) 62)) (.slice (some ⟨b, 0, none⟩) 1 1) [x] := ze7 _ [x] 1 _ _ _ rfl hb (by simp [zam, Eaa, zv5])
theorem zyo (p q : Option Addr) (n m cl ck : Nat) (w : World) (hl : n ≠ m) :
  Calls Tryz.prog 41 #[.slice p n cl, .slice q m ck] w fun e w' => e = .returned (.bool false) ∧ Below w.heap.size w w' := by
 have e1 : ((n : Int) != (m : Int)) = true := by rw [bne_iff_ne]; omega
 clear hl
 go_enter Tryz.func41, Tryz.ntmps41
 go_wp2_with fail
 go_ret
 exact ⟨rfl, Below.refl _ _⟩
theorem zxl (p q : Option Addr) (n cl ck : Nat) (l k : List Aa) (w : World) (h : SlE Eaa w (.slice p n cl) l) (h' : SlE Eaa w (.slice q n ck) k) (hl : l.length = n) (hk : k.length = n) (hn : n ≤ 1000) :
  Calls Tryz.prog 41 #[.slice p n cl, .slice q n ck] w fun e w' => e = .returned (.bool (decide (l = k))) ∧ Below w.heap.size w w' := by
 have HS := Lib.hid h
 have HT := Lib.hid h'
 have HL := Lib.hid hl
 have HK := Lib.hid hk
 have HN := Lib.hid hn
 obtain ⟨r, hr⟩ : ∃ r, r = decide (l = k) := ⟨_, rfl⟩
 rw [← hr]
 have HR := Lib.hid hr
 clear h h' hl hk hn hr
 go_enter Tryz.func41, Tryz.ntmps41
 go_wp2_with fail
 go_loopw [5] (fun i wr => ∃ j : Nat, j ≤ n ∧ i = .int .i64 j ∧ (∀ x, x < j → att l x = att k x) ∧ Below w.heap.size w wr) (fun i _ => n - (intOf i).toNat)
 case atStart => exact ⟨0, Nat.zero_le _, rfl, fun x hx => absurd hx (Nat.not_lt_zero _), Below.refl _ _⟩
 case round =>
  obtain ⟨j, hj, rfl, hx, hb⟩ := hrel
  have HX := Lib.hid hx
  have HB := Lib.hid hb
  clear hx hb
  by_cases hlt : j < n
  ·
   have i0 : (0 : Int) ≤ (j : Int) := by omega
   have i1 : (j : Int) < (n : Int) := by omega
   have u1 : (j : Int) + 1 < 10000 := by have := HN.out; omega
   obtain ⟨b1, o1, c1, e1, _, q1, x1⟩ := zce HS.out (by have := HL.out; omega)
   injection e1 with e2 _ e3
   subst e2 e3
   obtain ⟨b2, o2, c2, e1, _, q2, x2⟩ := zce HT.out (by have := HK.out; omega)
   injection e1 with e2 _ e3
   subst e2 e3
   have y1 : ldA wr (.pointer (some ⟨b1, o1 + j * 100, none⟩)) 100 = some (aa (att l j)) := keep HB.out (zj5 x1 (by have := HL.out; omega))
   have y2 : ldA wr (.pointer (some ⟨b2, o2 + j * 100, none⟩)) 100 = some (aa (att k j)) := keep HB.out (zj5 x2 (by have := HK.out; omega))
   clear x1 x2 q1 q2
   by_cases he : att l j = att k j
   ·
    have HE := Lib.hid he
    rw [he] at y1
    clear he
    go_wp2_with fail
    go_quiet (fail)
    go_wp2_with fail
    go_roundw
    case rel => exact ⟨j + 1, by omega, by go_num, fun x hx => by
     rcases Nat.lt_succ_iff_lt_or_eq.1 hx with h | rfl
     ·
      exact HX.out x h
     ·
      exact HE.out, zar HB.out _⟩
    case measure => simp [intOf]; omega
   ·
    have hR : Hid (r = false) := by
     show r = false
     rw [HR.out, decide_eq_false_iff_not]
     intro e; exact he (by rw [e])
    have t1 : decide (att l j = att k j) = false := decide_eq_false he
    clear he
    go_wp2_with fail
    go_quiet (fail)
    go_wp2_with fail
    go_ret
    exact ⟨by rw [hR.out]; first | done | rfl, zar HB.out _⟩
  ·
   obtain rfl : j = n := by omega
   have hR : Hid (r = true) := by
    show r = true
    rw [HR.out, decide_eq_true_iff]
    exact ya1 (by rw [HL.out, HK.out]) fun i hi => HX.out i (by have := HK.out; omega)
   go_wp2_with fail
   go_ret
   exact ⟨by rw [hR.out]; first | done | rfl, HB.out⟩
theorem z89 (v u : Value) (l k : List Aa) (w : World) (h : SlE Eaa w v l) (h' : SlE Eaa w u k) (hn : l.length ≤ 1000) :
  Calls Tryz.prog 41 #[v, u] w fun e w' => e = .returned (.bool (decide (l = k))) ∧ Below w.heap.size w w' := by
 have hs := h
 have ht := h'
 obtain ⟨p, cl, rfl, _⟩ := zaf h
 obtain ⟨q, ck, rfl, _⟩ := zaf h'
 by_cases e : l.length = k.length
 ·
  rw [← e] at ht ⊢
  exact zxl p q l.length cl ck l k w hs ht rfl e.symm hn
 ·
  rw [decide_eq_false (fun he => e (by rw [he]))]
  exact zyo p q _ _ cl ck w e
theorem zzv (p q : Option Addr) (n m cp cq : Nat) (a b : List Lk) (w : World) (h : SlE Elk w (.slice p n cp) a) (h' : SlE Elk w (.slice q m cq) b) (ha : a.length = n) (hb : b.length = m) (hn : n ≤ 1000) :
  Calls Tryz.prog 42 #[.slice p n cp, .slice q m cq] w fun e w' => e = .returned (.bool (decide (a = b))) ∧ Below w.heap.size w w' := by
 have HS := Lib.hid h
 have HS2 := Lib.hid h'
 have HA := Lib.hid ha
 have HB := Lib.hid hb
 have HN := Lib.hid hn
 obtain ⟨r, hr⟩ : ∃ r, r = decide (a = b) := ⟨_, rfl⟩
 rw [← hr]
 have HR := Lib.hid hr
 clear h h' ha hb hn hr
 by_cases hnm : n = m
 ·
  subst hnm
  have e0 : ((n : Int) != (n : Int)) = false := by simp
  go_enter Tryz.func42, Tryz.ntmps42
  go_wp2_with fail
  clear e0
  go_loopw [5] (fun i wr => ∃ j : Nat, j ≤ n ∧ i = .int .i64 (j : Int) ∧ (∀ x, x < j → lkAt a x = lkAt b x) ∧ Below w.heap.size w wr) (fun i _ => n - (intOf i).toNat)
  case atStart => exact ⟨0, Nat.zero_le _, rfl, fun x hx => absurd hx (Nat.not_lt_zero _), Below.refl _ _⟩
  case round =>
   obtain ⟨j, hj, rfl, hx, hg⟩ := hrel
   have HX := Lib.hid hx
   have HG := Lib.hid hg
   clear hx hg
   by_cases hlt : j < n
   ·
    have i0 : (0 : Int) ≤ (j : Int) := by omega
    have i1 : (j : Int) < (n : Int) := by omega
    have u1 : (j : Int) + 1 < 10000 := by have := HN.out; omega
    have d0 : decide ((j : Int) < (n : Int)) = true := decide_eq_true i1
    have d0' : decide (j < n) = true := decide_eq_true hlt
    have HLT := Lib.hid hlt
    obtain ⟨b1, o1, rfl, _, x1⟩ := zgq (zac HG.out HS.out) (by have := HA.out; omega)
    obtain ⟨b2, o2, rfl, _, x2⟩ := zgq (zac HG.out HS2.out) (by have := HB.out; omega)
    have y1 := zit x1 (i := j) (by have := HA.out; omega)
    have y2 := zit x2 (i := j) (by have := HB.out; omega)
    clear x1 x2 hlt
    by_cases he : lkAt a j = lkAt b j
    ·
     have HE := Lib.hid he
     rw [he] at y1
     clear he
     go_wp2_with fail
     go_quiet (fail)
     go_wp2_with fail
     go_roundw
     case rel => exact ⟨j + 1, HLT.out, by go_num, (fun x hx => by
      rcases Nat.lt_succ_iff_lt_or_eq.1 hx with h | rfl
      ·
       exact HX.out x h
      ·
       exact HE.out), zar HG.out _⟩
     case measure => simp [intOf]; have := HLT.out; omega
    ·
     have hF : Hid (r = false) := by
      show r = false
      rw [HR.out, decide_eq_false_iff_not]
      intro e; exact he (by rw [e])
     have t1 : decide (lkAt a j = lkAt b j) = false := decide_eq_false he
     generalize lkAt a j = La at *
     generalize lkAt b j = Lb at *
     clear he
     go_wp2_with fail
     go_quiet (fail)
     go_wp2_with fail
     go_ret
     exact ⟨by rw [hF.out]; first | done | rfl, zar HG.out _⟩
   ·
    obtain rfl : j = n := by omega
    have d0 : decide ((j : Int) < (j : Int)) = false := decide_eq_false (Int.lt_irrefl _)
    have d0' : decide (j < j) = false := decide_eq_false (Nat.lt_irrefl _)
    have hF : Hid (r = true) := by
     show r = true
     rw [HR.out, decide_eq_true_iff]
     exact z4s (by rw [HA.out, HB.out]) fun i hi => HX.out i (by rw [← HB.out]; exact hi)
    clear hlt
    go_wp2_with fail
    go_ret
    exact ⟨by rw [hF.out]; first | done | rfl, HG.out⟩
 ·
  have e0 : ((n : Int) != (m : Int)) = true := by rw [bne_iff_ne]; omega
  have hF : Hid (r = false) := by
   show r = false
   rw [HR.out, decide_eq_false_iff_not]
   intro e; apply hnm; rw [← HA.out, ← HB.out, e]
  clear hnm
  go_enter Tryz.func42, Tryz.ntmps42
  go_wp2_with fail
  go_ret
  exact ⟨by rw [hF.out]; first | done | rfl, Below.refl _ _⟩
theorem ybz (u v : Value) (a b : List Lk) (w : World) (h : SlE Elk w u a) (h' : SlE Elk w v b) (hn : a.length ≤ 1000) :
  Calls Tryz.prog 42 #[u, v] w fun e w' => e = .returned (.bool (decide (a = b))) ∧ Below w.heap.size w w' := by
 have k := h
 have k' := h'
 obtain ⟨p, cp, rfl, _⟩ := zaf h
 obtain ⟨q, cq, rfl, _⟩ := zaf h'
 exact zzv p q _ _ cp cq a b w k k' rfl rfl hn
theorem zz8 (p q : Option Addr) (n m cp cq : Nat) (a b : List Ck) (w : World) (h : SlE Ecc w (.slice p n cp) a) (h' : SlE Ecc w (.slice q m cq) b) (ha : a.length = n) (hb : b.length = m) (hn : n ≤ 1000) :
  Calls Tryz.prog 43 #[.slice p n cp, .slice q m cq] w fun e w' => e = .returned (.bool (decide (a = b))) ∧ Below w.heap.size w w' := by
 have HS := Lib.hid h
 have HS2 := Lib.hid h'
 have HA := Lib.hid ha
 have HB := Lib.hid hb
 have HN := Lib.hid hn
 obtain ⟨r, hr⟩ : ∃ r, r = decide (a = b) := ⟨_, rfl⟩
 rw [← hr]
 have HR := Lib.hid hr
 clear h h' ha hb hn hr
 by_cases hnm : n = m
 ·
  subst hnm
  have e0 : ((n : Int) != (n : Int)) = false := by simp
  go_enter Tryz.func43, Tryz.ntmps43
  go_wp2_with fail
  clear e0
  go_loopw [5] (fun i wr => ∃ j : Nat, j ≤ n ∧ i = .int .i64 (j : Int) ∧ (∀ x, x < j → ckAt a x = ckAt b x) ∧ Below w.heap.size w wr) (fun i _ => n - (intOf i).toNat)
  case atStart => exact ⟨0, Nat.zero_le _, rfl, fun x hx => absurd hx (Nat.not_lt_zero _), Below.refl _ _⟩
  case round =>
   obtain ⟨j, hj, rfl, hx, hg⟩ := hrel
   have HX := Lib.hid hx
   have HG := Lib.hid hg
   clear hx hg
   by_cases hlt : j < n
   ·
    have i0 : (0 : Int) ≤ (j : Int) := by omega
    have i1 : (j : Int) < (n : Int) := by omega
    have u1 : (j : Int) + 1 < 10000 := by have := HN.out; omega
    have d0 : decide ((j : Int) < (n : Int)) = true := decide_eq_true i1
    have d0' : decide (j < n) = true := decide_eq_true hlt
    have HLT := Lib.hid hlt
    obtain ⟨b1, o1, rfl, _, x1⟩ := zhg (zac HG.out HS.out) (by have := HA.out; omega)
    obtain ⟨b2, o2, rfl, _, x2⟩ := zhg (zac HG.out HS2.out) (by have := HB.out; omega)
    have y1 := zil x1 (i := j) (by have := HA.out; omega)
    have y2 := zil x2 (i := j) (by have := HB.out; omega)
    clear x1 x2 hlt
    by_cases he : ckAt a j = ckAt b j
    ·
     have HE := Lib.hid he
     rw [he] at y1
     clear he
     go_wp2_with fail
     go_quiet (fail)
     go_wp2_with fail
     go_roundw
     case rel => exact ⟨j + 1, HLT.out, by go_num, (fun x hx => by
      rcases Nat.lt_succ_iff_lt_or_eq.1 hx with h | rfl
      ·
       exact HX.out x h
      ·
       exact HE.out), zar HG.out _⟩
     case measure => simp [intOf]; have := HLT.out; omega
    ·
     have hF : Hid (r = false) := by
      show r = false
      rw [HR.out, decide_eq_false_iff_not]
      intro e; exact he (by rw [e])
     have t1 : decide (ckAt a j = ckAt b j) = false := decide_eq_false he
     generalize ckAt a j = La at *
     generalize ckAt b j = Lb at *
     clear he
     go_wp2_with fail
     go_quiet (fail)
     go_wp2_with fail
     go_ret
     exact ⟨by rw [hF.out]; first | done | rfl, zar HG.out _⟩
   ·
    obtain rfl : j = n := by omega
    have d0 : decide ((j : Int) < (j : Int)) = false := decide_eq_false (Int.lt_irrefl _)
    have d0' : decide (j < j) = false := decide_eq_false (Nat.lt_irrefl _)
    have hF : Hid (r = true) := by
     show r = true
     rw [HR.out, decide_eq_true_iff]
     exact yb6 (by rw [HA.out, HB.out]) fun i hi => HX.out i (by rw [← HB.out]; exact hi)
    clear hlt
    go_wp2_with fail
    go_ret
    exact ⟨by rw [hF.out]; first | done | rfl, HG.out⟩
 ·
  have e0 : ((n : Int) != (m : Int)) = true := by rw [bne_iff_ne]; omega
  have hF : Hid (r = false) := by
   show r = false
   rw [HR.out, decide_eq_false_iff_not]
   intro e; apply hnm; rw [← HA.out, ← HB.out, e]
  clear hnm
  go_enter Tryz.func43, Tryz.ntmps43
  go_wp2_with fail
  go_ret
  exact ⟨by rw [hF.out]; first | done | rfl, Below.refl _ _⟩
theorem ybx (u v : Value) (a b : List Ck) (w : World) (h : SlE Ecc w u a) (h' : SlE Ecc w v b) (hn : a.length ≤ 1000) :
  Calls Tryz.prog 43 #[u, v] w fun e w' => e = .returned (.bool (decide (a = b))) ∧ Below w.heap.size w w' := by
 have k := h
 have k' := h'
 obtain ⟨p, cp, rfl, _⟩ := zaf h
 obtain ⟨q, cq, rfl, _⟩ := zaf h'
 exact zz8 p q _ _ cp cq a b w k k' rfl rfl hn
theorem yai (x y : En) (g f : Eg) (w : World) (h : LaidG w x g) (h' : LaidG w y f) (sg : zb0 g) :
  Calls Tryz.prog 13 #[.agg (en x), .agg (en y)] w fun e w' => e = .returned (.bool (decide (g = f))) ∧ Below w.heap.size w w' := by
 obtain ⟨W0, hW0⟩ : ∃ W0, W0 = (w.alloc (.cells (en x) 39)).alloc (.cells (en y) 39) := ⟨_, rfl⟩
 obtain ⟨hB, q0, q1, _⟩ := zdz w _ _ _ _ W0 hW0
 have A : Hid (Gv w W0 w.heap.size x g) := ⟨q0, h.keep hB, hB⟩
 have B : Hid (Gv w W0 (w.heap.size + 1) y f) := ⟨q1, h'.keep hB, hB⟩
 have HW := Lib.hid hW0
 have H1 := Lib.hid (fun W a b => yng x.t.n y.t.n g.t f.t W a b sg.t)
 have H2 := Lib.hid (fun W a b => ya3 x.v.l y.v.l g.v f.v W a b sg.v)
 have H3 := Lib.hid (fun W a b => zzi (sv x.bal) (sv y.bal) g.bal f.bal W a b sg.bal)
 have H4 := Lib.hid (fun W a b => zzi (sv x.w) (sv y.w) g.w f.w W a b sg.w)
 have H5 := Lib.hid (fun W a b => z89 (sv x.late) (sv y.late) g.late f.late W a b sg.late)
 have H6 := Lib.hid (fun W a b => ybz (sv x.k) (sv y.k) g.k f.k W a b sg.k)
 have H7 := Lib.hid (fun W a b => ybx (sv x.j) (sv y.j) g.j f.j W a b sg.j)
 obtain ⟨a1, e1⟩ : ∃ a, a = decide (g.t = f.t) := ⟨_, rfl⟩
 obtain ⟨a2, e2⟩ : ∃ a, a = decide (g.v = f.v) := ⟨_, rfl⟩
 obtain ⟨a3, e3⟩ : ∃ a, a = decide (g.bal = f.bal) := ⟨_, rfl⟩
 obtain ⟨a4, e4⟩ : ∃ a, a = decide (g.w = f.w) := ⟨_, rfl⟩
 obtain ⟨a5, e5⟩ : ∃ a, a = decide (g.late = f.late) := ⟨_, rfl⟩
 obtain ⟨a6, e6⟩ : ∃ a, a = decide (g.k = f.k) := ⟨_, rfl⟩
 obtain ⟨a7, e7⟩ : ∃ a, a = decide (g.j = f.j) := ⟨_, rfl⟩
 obtain ⟨a8, e8⟩ : ∃ a, a = decide (g.fin = f.fin) := ⟨_, rfl⟩
 obtain ⟨a9, e9⟩ : ∃ a, a = ((g.now.toNat : Int) == (f.now.toNat : Int)) := ⟨_, rfl⟩
 have HF : Hid (decide (g = f) = (a1 && (a2 && (a3 && (a4 && (a5 && (a6 && (a7 && (a8 && a9))))))))) := by
  show _ = _
  rw [e1, e2, e3, e4, e5, e6, e7, e8, e9, Bool.eq_iff_iff]
  simp only [Bool.and_eq_true, decide_eq_true_iff, beq_iff_eq]
  constructor
  ·
   rintro rfl; exact ⟨rfl, rfl, rfl, rfl, rfl, rfl, rfl, rfl, rfl⟩
  ·
   rintro ⟨h1, h2, h3, h4, h5, h6, h7, h8, h9⟩
   exact Eg.ext h1 h3 h2 h4 h5 h6 h7 h8 (UInt64.toNat_inj.1 (by omega))
 have t9 : (g.now.toNat == f.now.toNat) = a9 := by rw [e9, Bool.eq_iff_iff, beq_iff_eq, beq_iff_eq]; omega
 have t9' : decide (g.now.toNat = f.now.toNat) = a9 := by rw [e9, Bool.eq_iff_iff, decide_eq_true_iff, beq_iff_eq]; omega
 have t9i := e9.symm
 have t8 := e8.symm
 rw [← e1] at H1
 rw [← e2] at H2
 rw [← e3] at H3
 rw [← e4] at H4
 rw [← e5] at H5
 rw [← e6] at H6
 rw [← e7] at H7
 obtain ⟨r, hr⟩ : ∃ r, r = decide (g = f) := ⟨_, rfl⟩
 rw [← hr] at HF ⊢
 clear hW0 hB q0 q1 h h' sg e1 e2 e3 e4 e5 e6 e7 e8 e9 hr
 go_enter Tryz.func13, Tryz.ntmps13
 go_upto_region 1 with fail
 rw [← HW.out]
 have za := A.out.zT
 have zc := B.out.zT
 go_wp2_with fail
 refine (H1.out _ A.out.l.t B.out.l.t).mono ?_
 rintro e w1 ⟨rfl, gg⟩
 replace A := Lib.hid (A.out.keep gg)
 replace B := Lib.hid (B.out.keep gg)
 clear za zc gg
 have za := A.out.zV
 have zc := B.out.zV
 go_wp2_with fail
 refine (H2.out _ A.out.l.v B.out.l.v).mono ?_
 rintro e w2 ⟨rfl, gg⟩
 replace A := Lib.hid (A.out.keep gg)
 replace B := Lib.hid (B.out.keep gg)
 clear za zc gg
 have za := A.out.zb
 have zc := B.out.zb
 go_wp2_with fail
 refine (H3.out _ A.out.l.bal B.out.l.bal).mono ?_
 rintro e w3 ⟨rfl, gg⟩
 replace A := Lib.hid (A.out.keep gg)
 replace B := Lib.hid (B.out.keep gg)
 clear za zc gg
 have za := A.out.zw
 have zc := B.out.zw
 go_wp2_with fail
 refine (H4.out _ A.out.l.w B.out.l.w).mono ?_
 rintro e w4 ⟨rfl, gg⟩
 replace A := Lib.hid (A.out.keep gg)
 replace B := Lib.hid (B.out.keep gg)
 clear za zc gg
 have za := A.out.zl
 have zc := B.out.zl
 go_wp2_with fail
 refine (H5.out _ A.out.l.late B.out.l.late).mono ?_
 rintro e w5 ⟨rfl, gg⟩
 replace A := Lib.hid (A.out.keep gg)
 replace B := Lib.hid (B.out.keep gg)
 clear za zc gg
 have za := A.out.zk
 have zc := B.out.zk
 go_wp2_with fail
 refine (H6.out _ A.out.l.k B.out.l.k).mono ?_
 rintro e w6 ⟨rfl, gg⟩
 replace A := Lib.hid (A.out.keep gg)
 replace B := Lib.hid (B.out.keep gg)
 clear za zc gg
 have za := A.out.zj
 have zc := B.out.zj
 go_wp2_with fail
 refine (H7.out _ A.out.l.j B.out.l.j).mono ?_
 rintro e w7 ⟨rfl, gg⟩
 replace A := Lib.hid (A.out.keep gg)
 replace B := Lib.hid (B.out.keep gg)
 clear za zc gg
 have x1 := A.out.zf
 have x2 := B.out.zf
 have x3 := A.out.zn
 have x4 := B.out.zn
 clear H1 H2 H3 H4 H5 H6 H7 B
 cases a1
 ·
  go_wp2_with fail
  go_ret
  exact ⟨by rw [HF.out]; first | done | rfl | simp, A.out.g⟩
 ·
  cases a2
  ·
   go_wp2_with fail
   go_ret
   exact ⟨by rw [HF.out]; first | done | rfl | simp, A.out.g⟩
  ·
   cases a3
   ·
    go_wp2_with fail
    go_ret
    exact ⟨by rw [HF.out]; first | done | rfl | simp, A.out.g⟩
   ·
    cases a4
    ·
     go_wp2_with fail
     go_ret
     exact ⟨by rw [HF.out]; first | done | rfl | simp, A.out.g⟩
    ·
     cases a5
     ·
      go_wp2_with fail
      go_ret
      exact ⟨by rw [HF.out]; first | done | rfl | simp, A.out.g⟩
     ·
      cases a6
      ·
       go_wp2_with fail
       go_ret
       exact ⟨by rw [HF.out]; first | done | rfl | simp, A.out.g⟩
      ·
       cases a7
       ·
        go_wp2_with fail
        go_ret
        exact ⟨by rw [HF.out]; first | done | rfl | simp, A.out.g⟩
       ·
        cases a8
        ·
         go_wp2_with fail
         go_ret
         exact ⟨by rw [HF.out]; first | done | rfl | simp, A.out.g⟩
        ·
         cases a9
         ·
          go_wp2_with fail
          go_ret
          exact ⟨by rw [HF.out]; first | done | rfl | simp, A.out.g⟩
         ·
          go_wp2_with fail
          go_ret
          exact ⟨by rw [HF.out]; first | done | rfl | simp, A.out.g⟩
theorem zt0 {cnt : Lk → Bool} {ls : List Lk} : ∀ (f : Nat) (js : List Ck), (ze3 cnt ls f js).length ≤ js.length + f
 | 0, js => Nat.le_refl _
 | f + 1, js => by
  cases e : zcm cnt ls js with
  | none => simp only [ze3, e]; omega
  | some k =>
   simp only [ze3, e]
   have := zt0 (cnt := cnt) (ls := ls) f (js ++ [k.t])
   rw [List.length_append, List.length_singleton] at this
   omega
theorem zsi {l : List Nd} {ls : List Lk} {bal : List UInt64} {js : List Ck} : (zcn l ls bal js).length ≤ js.length + ls.length := by
 unfold zcn
 split
 ·
  exact zt0 _ _
 ·
  omega
section
variable {e : Eg}
theorem yej (h : MayS' e) (hj : e.j.length ≤ 1000) : zb0 e := by
 have h1 := (zcy.1 h.bal).2.1
 have h2 := (zff.1 h.late).1
 have h3 := (zd2.1 h.k).2
 have h4 := h.t.le
 exact ⟨by omega, by omega, by rw [h.vl]; omega, by rw [h.w, zuo h.fit]; omega, by omega, by omega, hj⟩
theorem yry (h : MayS' e) {a : Aa} (hf : fitG e a = 0) : (ctG e a).j.length ≤ e.j.length + 16 := by
 have hg := ct_G h hf
 unfold ctG at hg ⊢
 split at hg
 ·
  rename_i he
  rw [if_pos he]
  have h3 := (zd2.1 hg.k).2
  have := zsi (l := e.t) (ls := ctK e a) (bal := e.bal) (js := e.j)
  have h3' : (ctK e a).length ≤ 16 := h3
  show (zcn e.t (ctK e a) e.bal e.j).length ≤ _
  omega
 ·
  rename_i he; rw [if_neg he]; omega
theorem ym2 (h : MayS' e) (a : Aa) : (oneG e a).j.length ≤ e.j.length + 16 := by
 unfold oneG
 split
 ·
  rename_i hf; exact yry h hf
 ·
  omega
theorem yhu (xs : List Aa) : ∀ {e : Eg}, MayS' e → (xs.foldl oneG e).j.length ≤ e.j.length + 16 * xs.length := by
 induction xs with
 | nil => intro e _; exact Nat.le_refl _
 | cons a xs ih =>
  intro e h
  have h1 := ym2 h a
  have h2 := ih (ypg h a)
  simp only [List.foldl_cons, List.length_cons]
  omega
end
end Go.Proofs.YtmihlihlpdkdcaaGreat
