import Derived.Test.YtkalofboioffiaaGreatQ36
namespace Go.Proofs.YtkalofboioffiaaGreat
open Go.RowKit
set_option maxRecDepth 200000
set_option maxHeartbeats 64000000
theorem yer (x : Value) (p : Option Addr) (n cp : Nat) (w : World) (R : Nat → World → Prop) (B : World → Prop) (hn : n ≤ 1000)
  (H : ∀ m W, m < n → R (m + 1) W → Calls Tryz.prog 120 #[x, .int .i64 (m : Int)] W fun e w' => ∃ ok, e = .returned (.bool ok) ∧ (ok = true → R m w') ∧ (ok = false → B w'))
  (h : R n w) :
  Calls Tryz.prog 119 #[.slice p n cp, .func (.func 120) #[x] #[]] w fun e w' => ∃ v ok, e = .returned (.tuple #[v, .bool ok]) ∧ (ok = true → v = .slice p n cp ∧ R 0 w') ∧ (ok = false → v = .slice none 0 0 ∧ B w') := by
 have HH := Lib.hid H
 have HR := Lib.hid h
 have HN := Lib.hid hn
 clear H h hn
 go_enter Tryz.func119, Tryz.ntmps119
 go_wp2_with fail
 go_loopw [6, 9] (fun _ k wr => ∃ j : Nat, j ≤ n ∧ k = .int .i64 (j : Int) ∧ R (n - j) wr) (fun _ k _ => n - (intOf k).toNat)
 case atStart => exact ⟨0, Nat.zero_le _, rfl, HR.out⟩
 case round =>
  obtain ⟨j, hj, rfl, hr⟩ := hrel
  have KR := Lib.hid hr
  clear hr
  by_cases hlt : j < n
  ·
   have i0 : (0 : Int) ≤ (j : Int) := by omega
   have i1 : (j : Int) < (n : Int) := by omega
   have u1 : (j : Int) + 1 < 10000 := by have := HN.out; omega
   have u2 : (n : Int) < 10000 := by have := HN.out; omega
   obtain ⟨m, hm⟩ : ∃ m, m = n - 1 - j := ⟨_, rfl⟩
   have hmi : (n : Int) - 1 - (j : Int) = (m : Int) := by omega
   have HC := Lib.hid (HH.out m wr (by omega) (by rw [show m + 1 = n - j by omega]; exact KR.out))
   have HM : Hid (n - (j + 1) = m) := by show n - (j + 1) = m; omega
   have HL := Lib.hid hlt
   clear hm hlt
   go_wp2_with fail
   refine HC.out.mono ?_
   rintro e w1 ⟨ok, rfl, hy, hz⟩
   have HY := Lib.hid hy
   have HZ := Lib.hid hz
   clear hy hz
   cases ok
   ·
    go_wp2_with fail
    go_ret2
    exact ⟨_, _, rfl, (fun e => by cases e), (fun _ => ⟨rfl, HZ.out (by simp)⟩)⟩
   ·
    go_wp2_with fail
    go_roundw
    case rel => exact ⟨j + 1, HL.out, by go_num, by rw [HM.out]; exact HY.out (by simp)⟩
    case measure => simp [intOf]; have := HL.out; omega
  ·
   obtain rfl : j = n := by omega
   clear hlt
   go_wp2_with fail
   go_ret2
   exact ⟨_, _, rfl, (fun _ => ⟨rfl, by have := KR.out; rwa [Nat.sub_self] at this⟩), (fun e => by cases e)⟩
theorem zxd (p : Option Addr) (n cap : Nat) (w : World) : (binOp .eql 25 (.slice p n cap) (.slice none 0 0)).run Tryz.prog w = .ok (.bool p.isNone) w := by
 have h := run_equalIn_slice_nil (P := Tryz.prog) w 9999 25 27 p n cap Tryz.underlying25
 simp [binOp, Op.equal, Op.maxDepth, h]
theorem yso : zjp Tryz.prog Enum 25 8 := ⟨Tryz.underlying25, num 0, zu1, rfl⟩
def yoy (l : List UInt64) (w : World) (e : Ending) (w' : World) : Prop := ∃ v, e = .returned v ∧ OwnE Enum w' w.heap.size v l ∧ Below w.heap.size w w'
theorem z5f (p : Option Addr) (n cap : Nat) (l : List UInt64) (w : World) (h : SlE Enum w (.slice p n cap) l) (hl : l.length = n) (hn : n * 8 ≤ 140737488355328) :
  Calls Tryz.prog 59 #[.slice p n cap] w (yoy l w) := by
 have HS := Lib.hid h
 have HL := Lib.hid hl
 have HN := Lib.hid hn
 cases p with
 | none =>
  have hn0 : l = [] := by
   obtain ⟨p, cap', e, _, h⟩ := h
   injection e with e
   subst e
   exact h.resolve_right (fun ⟨_, _, e, _⟩ => by cases e)
  have e : n = 0 := by rw [← hl, hn0]; rfl
  subst hn0 e
  clear HS h hl hn
  have he : ∀ w, (binOp .eql 25 (.slice none 0 cap) (.slice none 0 0)).run Tryz.prog w = .ok (.bool true) w := fun w => zxd none 0 cap w
  go_enter Tryz.func59, Tryz.ntmps59
  go_wp2_with fail
  go_ret
  exact ⟨_, rfl, zb3 _ _ _, Below.refl _ _⟩
 | some a =>
  have HO : Hid (OwnE Enum (w.alloc (.cells #[] 27)) w.heap.size (.slice (some ⟨w.heap.size, 0, none⟩) 0 0) []) := zjc (E := Enum) w [] 0 rfl (by simp [maxLen]) #[] rfl _ rfl
  have HB : Hid (Below w.heap.size w (w.alloc (.cells #[] 27))) := below1
  clear h hl hn
  have he : ∀ w, (binOp .eql 25 (.slice (some a) n cap) (.slice none 0 0)).run Tryz.prog w = .ok (.bool false) w := fun w => zxd (some a) n cap w
  go_enter Tryz.func59, Tryz.ntmps59
  go_wp2_with (at_builtin; refine zc1 yso _ rfl (.tmp 5) (.tmp 6) rfl w.heap.size _ [] rfl HO.out _ l rfl (zad HB.out HS.out) (by have := HL.out; have := HN.out; simp [maxLen]; omega) (by have := HL.out; have := HN.out; simp; omega) (by simp) ?_; intro v2 w2 ho2 hg2)
  go_ret
  exact ⟨_, rfl, by simpa using ho2, HB.out.trans (hg2.own HO.out (by simp))⟩
theorem zga (v : Value) (l : List UInt64) (w : World) (h : SlE Enum w v l) (hn : l.length * 8 ≤ 140737488355328) :
  Calls Tryz.prog 59 #[v] w (yoy l w) := by
 have k := h
 obtain ⟨p, cl, rfl, _⟩ := zar h
 exact z5f p _ cl l w k rfl hn
theorem zpm : ∀ args w, (callFunc 59 args).run Tryz.prog w = .ok (.enter 59 args) w := zbe Tryz.func59 (by kernel_rfl) (by kernel_rfl)
theorem zyi (w : World) (o : Obj) (n : Nat) : ((w.alloc o).drewN n).heap[w.heap.size]? = some o := heap_alloc_last w o
theorem yat {w : World} {g : Nat} {c r : Array Value} {t : TypeId} (hg : w.heap[g]? = some (.cells c t (0, 0))) (h : r.size = c.size) : (stA w (.pointer (some ⟨g, 0, none⟩)) (.agg r)).heap[g]? = some (.cells r t (0, 0)) := by
 rw [zbx hg (by omega)]
 congr 2
 apply Array.toList_inj.1
 unfold za2
 simp only [List.take_zero, List.nil_append, Nat.zero_add]
 rw [List.drop_of_length_le (by rw [Array.length_toList]; omega), List.append_nil]
def VarS (W : World) (s : SlV) (a : List UInt64) (n : Nat) (t : Value) (wx : World) : Prop :=
 ∃ g gc cap, t = .pointer (some ⟨g, 0, none⟩) ∧ wx.heap[g]? = some (.cells (sm ⟨⟨s⟩, ⟨some ⟨gc, 0, none⟩, n, cap⟩⟩) 157 (0, 0)) ∧ OwnE Enum wx W.heap.size (.slice (some ⟨gc, 0, none⟩) n cap) a ∧ Below W.heap.size W wx
theorem yiu {W w2 : World} {k : Nat} {s : SlV} {a : List UInt64} {n gc cap : Nat} (g2 : Below ((W.alloc (.cells (sm zsm) 157)).drewN k).heap.size ((W.alloc (.cells (sm zsm) 157)).drewN k) w2)
  (ho : OwnE Enum w2 ((W.alloc (.cells (sm zsm) 157)).drewN k).heap.size (.slice (some ⟨gc, 0, none⟩) n cap) a) : VarS W s a n (.pointer (some ⟨W.heap.size, 0, none⟩)) (stA w2 (.pointer (some ⟨W.heap.size, 0, none⟩)) (.agg (sm ⟨⟨s⟩, ⟨some ⟨gc, 0, none⟩, n, cap⟩⟩))) := by
 have hz : ((W.alloc (.cells (sm zsm) 157)).drewN k).heap.size = W.heap.size + 1 := by show (W.alloc _).heap.size = _; simp
 have hn := zab g2 (zyi W _ k)
 rw [hz] at ho
 refine ⟨_, gc, cap, rfl, yat hn (by rw [zm8, zm8]), zbf (zdp ho (by omega)) (by omega), ?_⟩
 exact zap (zac (zak below1 k) g2) (Nat.le_refl _)
theorem yit {W w2 : World} {k : Nat} {s : SlV} {a : List UInt64} {n gc cap : Nat} (g2 : Below (W.drewN k).heap.size (W.drewN k) w2)
  (ho : OwnE Enum w2 (W.drewN k).heap.size (.slice (some ⟨gc, 0, none⟩) n cap) a) : VarS W s a n (.pointer (some ⟨w2.heap.size, 0, none⟩)) (w2.alloc (.cells (sm ⟨⟨s⟩, ⟨some ⟨gc, 0, none⟩, n, cap⟩⟩) 157)) :=
 ⟨_, gc, cap, rfl, heap_alloc_last _ _, zba ho _, zac (zac (zak (Below.refl _ _) k) g2) below1⟩
theorem zzp (p q : Option Addr) (n cp m cq : Nat) (l : List Nd) (w : World) (h : SlE Ene w (.slice p n cp) l) (hk : ¬ (MayT l ∧ m = n)) :
  Calls Tryz.prog 84 #[.agg (tr ⟨⟨p, n, cp⟩⟩), .slice q m cq] w (NumsOk [] false w) := by
 have HM := Lib.hid (fun W (g : Below w.heap.size w W) => ze3 ⟨p, n, cp⟩ l W (zad g h))
 obtain ⟨W0, hW0⟩ : ∃ W0, W0 = w.alloc (.cells (tr ⟨⟨p, n, cp⟩⟩) 24) := ⟨_, rfl⟩
 have HB : Hid (Below w.heap.size w W0) := by rw [hW0]; exact below1
 have M0 : Hid (W0.heap[w.heap.size]? = some (.cells (tr ⟨⟨p, n, cp⟩⟩) 24 (0, 0))) := by rw [hW0]; exact heap_alloc_last w _
 have HW := Lib.hid hW0
 obtain ⟨r, hr⟩ : ∃ r, r = decide (MayT l) := ⟨_, rfl⟩
 rw [← hr] at HM
 have HK : Hid (r = true → ((m : Int) != (n : Int)) = true) := fun e => by
  rw [bne_iff_ne]
  intro e2
  exact hk ⟨of_decide_eq_true (hr.symm.trans e), by omega⟩
 clear hW0 h hk hr
 go_enter Tryz.func84, Tryz.ntmps84
 go_wp2_with fail
 rw [← HW.out]
 refine (HM.out W0 HB.out).mono ?_
 rintro e w1 ⟨rfl, g1⟩
 have G1 := Lib.hid (zac HB.out g1)
 obtain ⟨z0, z1, zl⟩ := zaw (zab g1 M0.out)
 dsimp only at z0
 rw [za7] at z0
 clear g1
 cases r
 ·
  go_wp2_with fail
  go_ret2
  exact ⟨_, rfl, zb3 _ _ _, G1.out⟩
 ·
  have t1 := HK.out rfl
  go_wp2_with fail
  go_ret2
  exact ⟨_, rfl, zb3 _ _ _, G1.out⟩
theorem zwq (p q : Option Addr) (n cp cq : Nat) (l : List Nd) (a : List UInt64) (w : World) (h : SlE Ene w (.slice p n cp) l) (h' : SlE Enum w (.slice q n cq) a) (hl : l.length = n) (ha : a.length = n) (hm : MayT l) :
  Calls Tryz.prog 84 #[.agg (tr ⟨⟨p, n, cp⟩⟩), .slice q n cq] w (NumsOk (subL l a) (zh5 l a) w) := by
 have HM : Hid (∀ W, Below w.heap.size w W → Calls Tryz.prog 47 #[.agg (tr ⟨⟨p, n, cp⟩⟩)] W fun e w' => e = .returned (.bool true) ∧ Below W.heap.size W w') := fun W g => by
  have := ze3 ⟨p, n, cp⟩ l W (zad g h)
  rwa [decide_eq_true hm] at this
 have HC := Lib.hid (fun W (g : Below w.heap.size w W) => zga (.slice q n cq) a W (zad g h') (by have := hm.le; omega))
 obtain ⟨W0, hW0⟩ : ∃ W0, W0 = w.alloc (.cells (tr ⟨⟨p, n, cp⟩⟩) 24) := ⟨_, rfl⟩
 have HB : Hid (Below w.heap.size w W0) := by rw [hW0]; exact below1
 have M0 : Hid (W0.heap[w.heap.size]? = some (.cells (tr ⟨⟨p, n, cp⟩⟩) 24 (0, 0))) := by rw [hW0]; exact heap_alloc_last w _
 have HW := Lib.hid hW0
 have HS := Lib.hid h
 have HL := Lib.hid hl
 have HMm := Lib.hid hm
 have HLA := Lib.hid ha
 have HN : Hid (0 < n) := by show 0 < n; have := hm.pos; omega
 have t0 : ((n : Int) != (n : Int)) = false := by simp
 clear hW0 h h' hl ha hm
 go_enter Tryz.func84, Tryz.ntmps84
 go_wp2_with fail
 rw [← HW.out]
 refine (HM.out W0 HB.out).mono ?_
 rintro e w1 ⟨rfl, g1⟩
 have G1 := Lib.hid (zac HB.out g1)
 have M1 := Lib.hid (zab g1 M0.out)
 obtain ⟨z0, z1, zl⟩ := zaw M1.out
 dsimp only at z0
 rw [za7] at z0
 clear g1
 go_upto_region 3 with fail
 go_cut [6] from 18 to 22 (fun t wx => VarS w1 ⟨p, n, cp⟩ a n t wx)
 case first =>
  go_region_law (refine z71 _ rfl rfl zpm #[.slice q n cq] rfl ?_; refine (HC.out _ (by first | exact zac G1.out (zak (Below.refl _ _) _) | exact zac G1.out (zak below1 _))).mono ?_; rintro e w2 ⟨v2, rfl, ho, g2⟩; refine ⟨_, rfl, ?_⟩; obtain ⟨gc, cap, rfl, hgc⟩ := ycb ho HLA.out HN.out; obtain ⟨-, zt, zu⟩ := zaw (zab (zac (by first | exact zak (Below.refl _ _) _ | exact zak below1 _) g2) M1.out); (try (have yw := za0 (zab g2 (zyi w1 _ _)) (zm8 _))); (first | (have HR := Lib.hid (yiu (s := ⟨p, n, cp⟩) g2 ho)) | (have HR := Lib.hid (yit (W := w1) (s := ⟨p, n, cp⟩) g2 ho))))
  all_goals (go_wp2_with fail; go_meet; exact HR.out)
 case rest =>
  obtain ⟨g, gc, cap, rfl, hg, ho, hb⟩ := hcut
  have G2 := Lib.hid (zac G1.out hb)
  have B0 := Lib.hid hb
  have HX := Lib.hid (yer (.agg (sm ⟨⟨⟨p, n, cp⟩⟩, ⟨some ⟨gc, 0, none⟩, n, cap⟩⟩)) (some ⟨gc, 0, none⟩) n cap wc (z8r w1 gc n cap l a) (fun W => zh5 l a = false ∧ Below w1.heap.size w1 W) (by have := HMm.out.le; have := HL.out; omega)
   (fun m W hmn hr => by
    by_cases h0 : m = 0
    ·
     subst h0
     exact (z0t ⟨p, n, cp⟩ gc n cap l a w1 W HMm.out hr).mono fun e w' ⟨h1, h2⟩ => ⟨true, h1, fun _ => h2, fun e => by cases e⟩
    ·
     exact z50 ⟨p, n, cp⟩ gc n cap l a m w1 W (zad G1.out HS.out) HL.out HMm.out hr (by omega) hmn)
   ⟨hb, a, ho, by rw [← HL.out]; exact z0s (by rw [HLA.out, HL.out])⟩)
  obtain ⟨y0, y1, y2, yl⟩ := zv7 hg
  dsimp only at y1
  rw [za7] at y1
  clear hg ho hb
  go_wp2_with fail
  refine HX.out.mono ?_
  rintro e w3 ⟨v, ok, rfl, h1, h2⟩
  cases ok
  ·
   obtain ⟨rfl, h3, h4⟩ := h2 rfl
   have HF := Lib.hid h3
   have HB4 := Lib.hid h4
   clear h1 h2 h3 h4
   go_wp2_with fail
   go_ret2
   exact ⟨_, by rw [HF.out]; first | done | rfl, by rw [ydi HF.out]; exact zb3 _ _ _, zac G1.out HB4.out⟩
  ·
   obtain ⟨rfl, hb4, c, ho, hi⟩ := h1 rfl
   obtain ⟨e1, rfl⟩ := yao HMm.out (by rw [HLA.out, HL.out]) hi
   have HF := Lib.hid e1
   have HB4 := Lib.hid hb4
   have HO := Lib.hid ho
   clear h1 h2 hb4 ho hi e1
   go_wp2_with fail
   go_ret2
   exact ⟨_, by rw [HF.out]; first | done | rfl, zbf HO.out G1.out.size, zac G1.out HB4.out⟩
theorem yd4 (s : SlV) (v : Value) (l : List Nd) (a : List UInt64) (w : World) (h : SlE Ene w (sv s) l) (h' : SlE Enum w v a) :
  Calls Tryz.prog 84 #[.agg (tr ⟨s⟩), v] w (NumsOk (subL l a) (zh5 l a) w) := by
 have k := h'
 have hs := zcn h
 obtain ⟨q, cq, rfl, _⟩ := zar h'
 obtain ⟨p, n, cp⟩ := s
 dsimp only at hs
 subst hs
 by_cases hk : MayT l ∧ a.length = l.length
 ·
  rw [hk.2] at k ⊢
  exact zwq p q _ cp cq l a w h k rfl hk.2 hk.1
 ·
  have e : zh5 l a = false := by
   rw [← Bool.not_eq_true]
   intro e
   obtain ⟨h1, h2, _⟩ := ziw.1 e
   exact hk ⟨h1, h2⟩
  rw [ydi e, e]
  exact zzp p q _ cp _ cq l w h hk
theorem ygm (n : Nat) (k : Nat) : lat (newV (n : Int)).l k = zlt := by
 unfold newV lat
 split
 ·
  rw [Int.toNat_natCast, List.getD_eq_getElem?_getD, List.getElem?_replicate]
  split <;> rfl
 ·
  rfl
theorem ylt {l : List Nd} {v : Vt} {bal : List UInt64} (h : fitB l v bal = true) : fitB l (newV (v.l.length : Int)) bal = true := by
 obtain ⟨h1, h2, h3, h4⟩ := zgm.1 h
 obtain ⟨a, b, _⟩ := zcu.1 h2
 obtain ⟨k1, k2, _⟩ := ym3 (n := (v.l.length : Int)) (decide_eq_true (by omega))
 exact zgm.2 ⟨h1, k1, h3, by rw [k2]; omega⟩
theorem yb5 (l : List Nd) (v : Vt) (bal : List UInt64) : ofB l (newV (v.l.length : Int)) v bal = fitB l v bal := by
 cases h : fitB l v bal
 ·
  unfold ofB; rw [h, Bool.and_false]
 ·
  exact yb4.2 ⟨ylt h, h⟩
theorem yhj (l : List Nd) (v : Vt) (bal : List UInt64) : zr8 l (newV (v.l.length : Int)) v bal = ownL l v bal := by
 cases h : fitB l v bal
 ·
  rw [z4c (by rw [yb5, h]), ync h]
 ·
  rw [zyt (by rw [yb5, h]), zvs h]
  congr 1
  funext i
  unfold zv8 ownF
  congr 1
  funext k
  unfold newB
  rw [ygm]
  cases hk : forB l v i k
  ·
   rfl
  ·
   have : lat v.l k ≠ zlt := by
    intro e
    unfold forB at hk
    rw [e] at hk
    cases hk
   rw [decide_eq_true this]; rfl
theorem z5i (p q r : Option Addr) (n cp m cq k cr : Nat) (l : List Nd) (v : Vt) (bal : List UInt64) (w : World) (h : SlE Ene w (.slice p n cp) l) (h1 : SlE Elt w (.slice q m cq) v.l) (h2 : SlE Enum w (.slice r k cr) bal) (hv : v.l.length = m) :
  Calls Tryz.prog 83 #[.agg (tr ⟨⟨p, n, cp⟩⟩), .agg (vo ⟨⟨q, m, cq⟩, v.out⟩), .slice r k cr] w (z2r (ownL l v bal) (fitB l v bal) w) := by
 have HN := Lib.hid (fun W => yd0 (m : Int) W)
 have HO := Lib.hid (fun (s1 : SlV) W (g : Below w.heap.size w W) (hs : SlE Elt W (sv s1) (newV (m : Int)).l) => ylc ⟨p, n, cp⟩ s1 ⟨q, m, cq⟩ (.slice r k cr) l (newV (m : Int)) v bal W (zad g h) hs (zad g h1) (zad g h2))
 have e1 := yb5 l v bal
 have e2 := yhj l v bal
 rw [hv] at e1 e2
 rw [e1, e2] at HO
 obtain ⟨f, hf⟩ : ∃ f, f = fitB l v bal := ⟨_, rfl⟩
 rw [← hf] at HO ⊢
 generalize ownL l v bal = A at *
 generalize zju l (newV (m : Int)) v bal = M at *
 generalize zhy (m : Int) = ok at *
 generalize newV (m : Int) = V at *
 obtain ⟨W0, hW0⟩ : ∃ W0, W0 = (w.alloc (.cells (tr ⟨⟨p, n, cp⟩⟩) 24)).alloc (.cells (vo ⟨⟨q, m, cq⟩, v.out⟩) 29) := ⟨_, rfl⟩
 obtain ⟨hB, k0, k1, hz0⟩ := zdb w _ _ _ _ W0 hW0
 have HB := Lib.hid hB
 have HW := Lib.hid hW0
 have K0 := Lib.hid k0
 have K1 := Lib.hid k1
 have y0 := (zb5 k1).1
 dsimp only at y0
 rw [za7] at y0
 clear hW0 h h1 h2 hv hB k0 k1 hz0 hf e1 e2
 go_enter Tryz.func83, Tryz.ntmps83
 go_wp2_with fail
 rw [← HW.out]
 go_wp2_with fail
 refine (HN.out W0).mono ?_
 rintro e w1 ⟨s1, rfl, hs1, g1⟩
 have G1 := Lib.hid (zac HB.out g1)
 have A1 := Lib.hid (yq6 g1 hs1)
 have M0 := Lib.hid (zab (zac g1 (below1 (o := .cells (vo ⟨s1, V.out⟩) 29))) K0.out)
 have M1 := Lib.hid (zab (zac g1 (below1 (o := .cells (vo ⟨s1, V.out⟩) 29))) K1.out)
 clear g1 hs1 y0
 have z1 := (zaw M0.out).2.1
 have y1 := (zb5 M1.out).2.2.1
 have y2 := A1.out.z1
 obtain ⟨W2, hW2⟩ : ∃ W2, W2 = w1.alloc (.cells (vo ⟨s1, V.out⟩) 29) := ⟨_, rfl⟩
 obtain ⟨bx, hbx⟩ : ∃ bx, bx = w1.heap.size := ⟨_, rfl⟩
 rw [← hW2] at A1 z1 y1 y2
 rw [← hbx] at A1 y2
 have HW2 := Lib.hid hW2
 have HBX := Lib.hid hbx
 have G2 : Hid (Below w.heap.size w W2) := by show Below _ _ _; rw [hW2]; exact zac G1.out below1
 clear hW2 hbx M0 M1
 go_wp2_with (rw [← HW2.out]; rw [← HBX.out])
 refine (HO.out s1 W2 G2.out A1.out.s).mono ?_
 rintro e w3 ⟨u1, u2, rfl, hu1, hu2, g3⟩
 have HU := Lib.hid hu1
 have G3 := Lib.hid (zac G2.out g3)
 clear g3 hu1 hu2 z1 y1 y2
 go_wp2_with fail
 go_ret2
 exact ⟨_, rfl, HU.out, G3.out⟩
theorem yfw (s t : SlV) (u : Value) (l : List Nd) (v : Vt) (bal : List UInt64) (w : World) (h : SlE Ene w (sv s) l) (h1 : SlE Elt w (sv t) v.l) (h2 : SlE Enum w u bal) :
  Calls Tryz.prog 83 #[.agg (tr ⟨s⟩), .agg (vo ⟨t, v.out⟩), u] w (z2r (ownL l v bal) (fitB l v bal) w) := by
 have hv := znd h1
 obtain ⟨p, n, cp⟩ := s
 obtain ⟨q, m, cq⟩ := t
 dsimp only at hv
 have k2 := h2
 obtain ⟨r, cr, rfl, _⟩ := zar h2
 exact z5i p q r n cp m cq _ cr l v bal w h h1 k2 hv
theorem zrr (p q r : Option Addr) (n cp m cq k cr : Nat) (l : List Nd) (v : Vt) (bal : List UInt64) (w : World) (h : SlE Ene w (.slice p n cp) l) (h1 : SlE Elt w (.slice q m cq) v.l) (h2 : SlE Enum w (.slice r k cr) bal) :
  Calls Tryz.prog 41 #[.agg (tr ⟨⟨p, n, cp⟩⟩), .agg (vo ⟨⟨q, m, cq⟩, v.out⟩), .slice r k cr] w (NumsOk (wtsL l v bal) (fitB l v bal) w) := by
 have HO := Lib.hid (fun W (g : Below w.heap.size w W) => yfw ⟨p, n, cp⟩ ⟨q, m, cq⟩ (.slice r k cr) l v bal W (zad g h) (zad g h1) (zad g h2))
 have HS : Hid (fitB l v bal = true → ∀ x W, Below w.heap.size w W → SlE Enum W x (ownL l v bal) → Calls Tryz.prog 84 #[.agg (tr ⟨⟨p, n, cp⟩⟩), x] W (NumsOk (wtsL l v bal) true W)) := fun f x W g hx => by
  have := yd4 ⟨p, n, cp⟩ x l (ownL l v bal) W (zad g h) hx
  rw [yd7 f] at this
  rwa [zwt f]
 have HNo : Hid (fitB l v bal = false → wtsL l v bal = []) := fun e => yoe e
 generalize ownL l v bal = A at *
 generalize wtsL l v bal = B at *
 generalize fitB l v bal = f at *
 obtain ⟨W0, hW0⟩ : ∃ W0, W0 = (w.alloc (.cells (tr ⟨⟨p, n, cp⟩⟩) 24)).alloc (.cells (vo ⟨⟨q, m, cq⟩, v.out⟩) 29) := ⟨_, rfl⟩
 obtain ⟨hB, k0, k1, hz0⟩ := zdb w _ _ _ _ W0 hW0
 have HB := Lib.hid hB
 have HW := Lib.hid hW0
 have K0 := Lib.hid k0
 have z1 := (zaw k0).2.1
 have y1 := (zb5 k1).2.2.1
 clear hW0 h h1 h2 hB k0 k1 hz0
 go_enter Tryz.func41, Tryz.ntmps41
 go_wp2_with fail
 rw [← HW.out]
 go_wp2_with fail
 refine (HO.out W0 HB.out).mono ?_
 rintro e w1 ⟨x, rfl, hx, g1⟩
 have HX := Lib.hid hx
 have G1 := Lib.hid (zac HB.out g1)
 have M0 := Lib.hid (zab g1 K0.out)
 clear hx g1 z1 y1
 have z1 := (zaw M0.out).2.1
 cases f
 ·
  have e := HNo.out (by simp)
  subst e
  go_wp2_with fail
  go_ret2
  exact ⟨_, rfl, zb3 _ _ _, G1.out⟩
 ·
  go_wp2_with fail
  refine (HS.out (by simp) x w1 G1.out HX.out).mono ?_
  rintro e w2 ⟨y, rfl, hy, g2⟩
  have HY := Lib.hid hy
  have G2 := Lib.hid (zac G1.out g2)
  clear hy g2 z1
  go_wp2_with fail
  go_ret2
  exact ⟨_, rfl, zbf HY.out G1.out.size, G2.out⟩
theorem zky (s t : SlV) (u : Value) (l : List Nd) (v : Vt) (bal : List UInt64) (w : World) (h : SlE Ene w (sv s) l) (h1 : SlE Elt w (sv t) v.l) (h2 : SlE Enum w u bal) :
  Calls Tryz.prog 41 #[.agg (tr ⟨s⟩), .agg (vo ⟨t, v.out⟩), u] w (NumsOk (wtsL l v bal) (fitB l v bal) w) := by
 obtain ⟨p, n, cp⟩ := s
 obtain ⟨q, m, cq⟩ := t
 have k2 := h2
 obtain ⟨r, cr, rfl, _⟩ := zar h2
 exact zrr p q r n cp m cq _ cr l v bal w h h1 k2
theorem zw8 (s t : SlV) (u : Value) (l : List Nd) (v : Vt) (bal : List UInt64) (w : World) (h : SlE Ene w (sv s) l) (h1 : SlE Elt w (sv t) v.l) (h2 : SlE Enum w u bal) :
  Calls Tryz.prog 41 #[.agg (tr ⟨s⟩), .agg (vo ⟨t, v.out⟩), u] w (z2r (wtsL l v bal) (fitB l v bal) w) := (zky s t u l v bal w h h1 h2).mono fun _ _ k => k.is
theorem z0o (p q : Option Addr) (n m cl ck : Nat) (w : World) (hl : n ≠ m) :
  Calls Tryz.prog 85 #[.slice p n cl, .slice q m ck] w fun e w' => e = .returned (.bool false) ∧ Below w.heap.size w w' := by
 have e1 : ((n : Int) == (m : Int)) = false := by simp; omega
 clear hl
 go_enter Tryz.func85, Tryz.ntmps85
 go_wp2_with fail
 go_ret
 exact ⟨rfl, Below.refl _ _⟩
theorem z0n (p q : Option Addr) (n cl ck : Nat) (l k : List UInt64) (w : World) (h : SlE Enum w (.slice p n cl) l) (h' : SlE Enum w (.slice q n ck) k) (hl : l.length = n) (hk : k.length = n) (hn : n ≤ 1000) :
  Calls Tryz.prog 85 #[.slice p n cl, .slice q n ck] w fun e w' => e = .returned (.bool (decide (l = k))) ∧ Below w.heap.size w w' := by
 have HS := Lib.hid h
 have HT := Lib.hid h'
 have HL := Lib.hid hl
 have HK := Lib.hid hk
 have HN := Lib.hid hn
 obtain ⟨r, hr⟩ : ∃ r, r = decide (l = k) := ⟨_, rfl⟩
 rw [← hr]
 have HR := Lib.hid hr
 clear h h' hl hk hn hr
 go_enter Tryz.func85, Tryz.ntmps85
 go_wp2_with fail
 go_loopw [5, 13] (fun _ i wr => ∃ j : Nat, j ≤ n ∧ i = .int .i64 (j : Int) ∧ (∀ x, x < j → fn l x = fn k x) ∧ Below w.heap.size w wr) (fun _ i _ => n - (intOf i).toNat)
 case atStart => exact ⟨0, Nat.zero_le _, rfl, fun x hx => absurd hx (Nat.not_lt_zero _), Below.refl _ _⟩
 case round =>
  obtain ⟨j, hj, rfl, hx, hb⟩ := hrel
  have HX := Lib.hid hx
  have HB := Lib.hid hb
  clear hx hb
  by_cases hlt : j < n
  ·
   have i0 : (0 : Int) ≤ (j : Int) := by omega
   have i1 : (j : Int) < (n : Int) := by omega
   have u1 : (j : Int) + 1 < 10000 := by have := HN.out; omega
   obtain ⟨b1, o1, rfl, q1, x1⟩ := zgi (zad HB.out HS.out) (by have := HL.out; omega)
   obtain ⟨b2, o2, rfl, q2, x2⟩ := zgi (zad HB.out HT.out) (by have := HK.out; omega)
   have y1 := zd4 x1 (i := j) (by have := HL.out; omega)
   have y2 := zd4 x2 (i := j) (by have := HK.out; omega)
   clear x1 x2 q1 q2
   obtain ⟨yl, hyl⟩ : ∃ y, y = fn l j := ⟨_, rfl⟩
   obtain ⟨yk, hyk⟩ : ∃ y, y = fn k j := ⟨_, rfl⟩
   rw [← hyl] at y1
   rw [← hyk] at y2
   have HYl := Lib.hid hyl
   have HYk := Lib.hid hyk
   clear hyl hyk
   by_cases he : yl = yk
   ·
    have HE : Hid (fn l j = fn k j) := by show _ = _; rw [← HYl.out, ← HYk.out]; exact he
    rw [he] at y1
    clear he
    go_wp2_with fail
    go_quiet (fail)
    go_wp2_with fail
    go_roundw
    case rel => exact ⟨j + 1, by omega, by go_num, fun x hx => by
     rcases Nat.lt_succ_iff_lt_or_eq.1 hx with h | rfl
     ·
      exact HX.out x h
     ·
      exact HE.out, zak HB.out _⟩
    case measure => simp [intOf]; omega
   ·
    have hR : Hid (r = false) := by
     show r = false
     rw [HR.out, decide_eq_false_iff_not]
     intro e
     exact he (by rw [HYl.out, HYk.out, e])
    have t1 : ((yl : Int) == (yk : Int)) = false := by rw [beq_eq_false_iff_ne]; omega
    have t1' : ((yl : Int) != (yk : Int)) = true := by rw [bne_iff_ne]; omega
    clear he
    go_wp2_with fail
    go_quiet (fail)
    go_wp2_with fail
    go_ret
    exact ⟨by rw [hR.out]; first | done | rfl, zak HB.out _⟩
  ·
   obtain rfl : j = n := by omega
   have hR : Hid (r = true) := by
    show r = true
    rw [HR.out, decide_eq_true_iff]
    exact yal (by rw [HL.out, HK.out]) fun i hi => HX.out i (by have := HK.out; omega)
   go_wp2_with fail
   go_ret
   exact ⟨by rw [hR.out]; first | done | rfl, HB.out⟩
theorem yf7 (v u : Value) (l k : List UInt64) (w : World) (h : SlE Enum w v l) (h' : SlE Enum w u k) (hn : l.length ≤ 1000) :
  Calls Tryz.prog 85 #[v, u] w fun e w' => e = .returned (.bool (decide (l = k))) ∧ Below w.heap.size w w' := by
 have hs := h
 have ht := h'
 obtain ⟨p, cl, rfl, _⟩ := zar h
 obtain ⟨q, ck, rfl, _⟩ := zar h'
 by_cases e : l.length = k.length
 ·
  rw [← e] at ht ⊢
  exact z0n p q l.length cl ck l k w hs ht rfl e.symm hn
 ·
  rw [decide_eq_false (fun he => e (by rw [he]))]
  exact z0o p q _ _ cl ck w e
theorem z8i (v u : Value) (a b : List UInt64) (w : World) (h : SlE Enum w v a) (h' : SlE Enum w u b) (hn : a.length ≤ 1000) :
  Calls Tryz.prog 42 #[v, u] w fun e w' => e = .returned (.bool (decide (a = b))) ∧ Below w.heap.size w w' := by
 have HE := Lib.hid (yf7 v u a b w h h' hn)
 obtain ⟨r, hr⟩ : ∃ r, r = decide (a = b) := ⟨_, rfl⟩
 rw [← hr] at HE
 rw [← hr]
 clear h h' hn hr
 go_enter Tryz.func42, Tryz.ntmps42
 go_wp2_with fail
 refine HE.out.mono ?_
 rintro e w1 ⟨rfl, g⟩
 go_wp2_with fail
 go_ret
 exact ⟨rfl, g⟩
theorem zg0 (x : En) (g : Eg) (w : World) (h : LaidG w x g) (sg : zcv g) :
  Calls Tryz.prog 20 #[.agg (en x)] w fun e w' => e = .returned (.bool (mayG g)) ∧ Below w.heap.size w w' := by
 obtain ⟨W0, hW0⟩ : ∃ W0, W0 = w.alloc (.cells (en x) 38) := ⟨_, rfl⟩
 have A : Hid (Gv w W0 w.heap.size x g) := by show Gv _ _ _ _ _; rw [hW0]; exact zpz h
 have HW := Lib.hid hW0
 have H1 := Lib.hid (fun W (l : LaidG W x g) => zw8 x.t.n x.v.l (sv x.bal) g.t g.v g.bal W l.t l.v l.bal)
 have H2 := Lib.hid (fun v W (l : LaidG W x g) k => z8i (sv x.w) v g.w (wtsL g.t g.v g.bal) W l.w k sg.w)
 have H3 := Lib.hid (fun W (l : LaidG W x g) => ybc (sv x.k) g.k W l.k)
 have H4 := Lib.hid (fun W (l : LaidG W x g) => z7i x g W l sg)
 have H5 := Lib.hid (fun W (l : LaidG W x g) => z7f x g W l sg)
 have H6 := Lib.hid (fun W (l : LaidG W x g) => yhn x g W l sg)
 have HF := mayE g
 generalize wtsL g.t g.v g.bal = ws at H1 H2 HF
 obtain ⟨b1, hb1⟩ : ∃ b, b = fitB g.t g.v g.bal := ⟨_, rfl⟩
 obtain ⟨b2, hb2⟩ : ∃ b, b = decide (g.w = ws) := ⟨_, rfl⟩
 obtain ⟨b3, hb3⟩ : ∃ b, b = mayL g.k := ⟨_, rfl⟩
 obtain ⟨b4, hb4⟩ : ∃ b, b = zkn g := ⟨_, rfl⟩
 obtain ⟨b5, hb5⟩ : ∃ b, b = zra g := ⟨_, rfl⟩
 obtain ⟨b6, hb6⟩ : ∃ b, b = zim g := ⟨_, rfl⟩
 rw [← hb1] at H1 HF
 rw [← hb2] at H2 HF
 rw [← hb3] at H3 HF
 rw [← hb4] at H4 HF
 rw [← hb5] at H5 HF
 rw [← hb6] at H6 HF
 obtain ⟨r, hr⟩ : ∃ r, r = mayG g := ⟨_, rfl⟩
 rw [← hr] at HF ⊢
 replace HF := Lib.hid HF
 clear hW0 h sg hb1 hb2 hb3 hb4 hb5 hb6 hr
 go_enter Tryz.func20, Tryz.ntmps20
 go_upto_region 1 with fail
 rw [← HW.out]
 have zT := A.out.zT
 have zV := A.out.zV
 have zb := A.out.zb
 go_wp2_with fail
 refine (H1.out _ A.out.l).mono ?_
 rintro e w1 ⟨v, rfl, hv, gg⟩
 replace A := Lib.hid (A.out.keep gg)
 have HV := Lib.hid hv
 clear gg hv zT zV zb H1
 cases b1
 ·
  go_wp2_with fail
  go_ret
  exact ⟨by rw [HF.out]; first | done | rfl, A.out.g⟩
 have zw := A.out.zw
 go_wp2_with fail
 refine (H2.out _ _ A.out.l HV.out).mono ?_
 rintro e w2 ⟨rfl, gg⟩
 replace A := Lib.hid (A.out.keep gg)
 clear gg zw H2 HV
 cases b2
 ·
  go_wp2_with fail
  go_ret
  exact ⟨by rw [HF.out]; first | done | rfl, A.out.g⟩
 have zk := A.out.zk
 go_wp2_with fail
 refine (H3.out _ A.out.l).mono ?_
 rintro e w3 ⟨rfl, gg⟩
 replace A := Lib.hid (A.out.keep gg)
 clear gg zk H3
 cases b3
 ·
  go_wp2_with fail
  go_ret
  exact ⟨by rw [HF.out]; first | done | rfl, A.out.g⟩
 have z := A.out.z
 go_wp2_with fail
 refine (H4.out _ A.out.l).mono ?_
 rintro e w4 ⟨rfl, gg⟩
 replace A := Lib.hid (A.out.keep gg)
 clear gg z H4
 cases b4
 ·
  go_wp2_with fail
  go_ret
  exact ⟨by rw [HF.out]; first | done | rfl, A.out.g⟩
 have z := A.out.z
 go_wp2_with fail
 refine (H5.out _ A.out.l).mono ?_
 rintro e w5 ⟨rfl, gg⟩
 replace A := Lib.hid (A.out.keep gg)
 clear gg z H5
 cases b5
 ·
  go_wp2_with fail
  go_ret
  exact ⟨by rw [HF.out]; first | done | rfl, A.out.g⟩
 have z := A.out.z
 go_wp2_with fail
 refine (H6.out _ A.out.l).mono ?_
 rintro e w6 ⟨rfl, gg⟩
 replace A := Lib.hid (A.out.keep gg)
 clear gg z H6
 go_wp2_with fail
 go_ret
 exact ⟨by rw [HF.out]; first | done | rfl, A.out.g⟩
theorem KneB : zjp Tryz.prog Ene 22 56 := ⟨Tryz.underlying22, .agg (ne zne), ymb, by show ((ne zne)).size = _; exact zm3 _⟩
theorem z3h (p : Option Addr) (n cap : Nat) (w : World) : (binOp .eql 22 (.slice p n cap) (.slice none 0 0)).run Tryz.prog w = .ok (.bool p.isNone) w := by
 have h := run_equalIn_slice_nil (P := Tryz.prog) w 9999 22 63 p n cap Tryz.underlying22
 simp [binOp, Op.equal, Op.maxDepth, h]
def ykk (l : List Nd) (w : World) (e : Ending) (w' : World) : Prop := ∃ v, e = .returned v ∧ OwnE Ene w' w.heap.size v l ∧ Below w.heap.size w w'
theorem z9k (p : Option Addr) (n cap : Nat) (l : List Nd) (w : World) (h : SlE Ene w (.slice p n cap) l) (hl : l.length = n) (hn : n * 56 ≤ 140737488355328) :
  Calls Tryz.prog 30 #[.slice p n cap] w (ykk l w) := by
 have HS := Lib.hid h
 have HL := Lib.hid hl
 have HN := Lib.hid hn
 cases p with
 | none =>
  have hn0 : l = [] := by
   obtain ⟨p, cap', e, _, h⟩ := h
   injection e with e
   subst e
   exact h.resolve_right (fun ⟨_, _, e, _⟩ => by cases e)
  have e : n = 0 := by rw [← hl, hn0]; rfl
  subst hn0 e
  clear HS h hl hn
  have he : ∀ w, (binOp .eql 22 (.slice none 0 cap) (.slice none 0 0)).run Tryz.prog w = .ok (.bool true) w := fun w => z3h none 0 cap w
  go_enter Tryz.func30, Tryz.ntmps30
  go_wp2_with fail
  go_ret
  exact ⟨_, rfl, zb3 _ _ _, Below.refl _ _⟩
 | some a =>
  have HO : Hid (OwnE Ene (w.alloc (.cells #[] 63)) w.heap.size (.slice (some ⟨w.heap.size, 0, none⟩) 0 0) []) := zjc (E := Ene) w [] 0 rfl (by simp [maxLen]) #[] rfl _ rfl
  have HB : Hid (Below w.heap.size w (w.alloc (.cells #[] 63))) := below1
  clear h hl hn
  have he : ∀ w, (binOp .eql 22 (.slice (some a) n cap) (.slice none 0 0)).run Tryz.prog w = .ok (.bool false) w := fun w => z3h (some a) n cap w
  go_enter Tryz.func30, Tryz.ntmps30
  go_wp2_with (at_builtin; refine zc1 KneB _ rfl (.tmp 5) (.tmp 6) rfl w.heap.size _ [] rfl HO.out _ l rfl (zad HB.out HS.out) (by have := HL.out; have := HN.out; simp [maxLen]; omega) (by have := HL.out; have := HN.out; simp; omega) (by simp) ?_; intro v2 w2 ho2 hg2)
  go_ret
  exact ⟨_, rfl, by simpa using ho2, HB.out.trans (hg2.own HO.out (by simp))⟩
theorem zua (s : SlV) (l : List Nd) (w : World) (h : SlE Ene w (sv s) l) (hn : l.length * 56 ≤ 140737488355328) :
  Calls Tryz.prog 30 #[sv s] w (ykk l w) := by
 have hs := zcn h
 obtain ⟨p, n, cl⟩ := s
 exact z9k p n cl l w h hs (by dsimp only at hs; omega)
theorem zrv : ∀ args w, (callFunc 30 args).run Tryz.prog w = .ok (.enter 30 args) w := zbe Tryz.func30 (by kernel_rfl) (by kernel_rfl)
end Go.Proofs.YtkalofboioffiaaGreat
