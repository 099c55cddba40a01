import Derived.Test.YtkalofboioffiaaGreatT14
namespace Go.Proofs.YtkalofboioffiaaGreat
open Go.RowKit
set_option maxRecDepth 200000
set_option maxHeartbeats 64000000
theorem zn7 (s : SlV) (v : Value) (l : List Nd) (k : Lk) (bal : List UInt64) (w : World) (h : SlE Ene w (sv s) l) (h2 : SlE Enum w v bal) (hn : l.length ≤ 1000) (hk : bal.length ≤ 1152921504606846976) :
  Calls Tryz.prog 148 #[.agg (tr ⟨s⟩), .agg (lk k), v] w fun e w' => e = .returned (.bool (cntB l bal k)) ∧ Below w.heap.size w w' := by
 have HA := Lib.hid (fun W (g : Below w.heap.size w W) => zif s l k.t k.s W (zad g h) hn)
 have HM := Lib.hid (fun W (g : Below w.heap.size w W) => z7n v bal k.mask W (zad g h2) hk)
 have HT : Hid (cntB l bal k = (zbz l k.t k.s && zt4 bal k.mask)) := rfl
 rw [HT.out]
 generalize zbz l k.t k.s = a at *
 generalize zt4 bal k.mask = b at *
 obtain ⟨W0, hW0⟩ : ∃ W0, W0 = (w.alloc (.cells (tr ⟨s⟩) 24)).alloc (.cells (lk k) 118) := ⟨_, rfl⟩
 obtain ⟨hB, k0, k1, hz0⟩ := zc2 w _ _ _ _ W0 hW0
 have HB := Lib.hid hB
 have HW := Lib.hid hW0
 have K1 := Lib.hid k1
 have z0 := (zai k0).2.1
 have z1 := (lk_v k1).s
 have z2 := (lk_v k1).t
 clear hW0 h h2 hn hk hB k0 k1 hz0 HT
 go_enter Tryz.func148, Tryz.ntmps148
 go_upto_region 1 with fail
 rw [← HW.out]
 go_wp2_with fail
 refine (HA.out W0 HB.out).mono ?_
 rintro e w1 ⟨rfl, g⟩
 have G1 := Lib.hid (zab HB.out g)
 have z3 := (lk_v (zac g K1.out)).m
 clear g z0 z1 z2
 go_wp2_with fail
 refine (HM.out _ G1.out).mono ?_
 rintro e w2 ⟨rfl, g⟩
 have G2 := Lib.hid (zab G1.out g)
 clear g z3
 cases a <;> cases b <;> (
  go_wp2_with fail
  go_ret
  exact ⟨rfl, G2.out⟩)
theorem ze9 : ∀ args w, (callFunc 148 args).run Tryz.prog w = .ok (.enter 148 args) w := za7 Tryz.func148 (by kernel_rfl) (by kernel_rfl)
theorem z56 {ls : List Lk} {p : Lk → Bool} {j : Nat} (hj : j < ls.length) (h : ∀ x, x < j → p (lkAt ls x) = false) (hp : p (lkAt ls j) = true) : ls.find? p = some (lkAt ls j) := by
 rw [List.find?_eq_some_iff_getElem]
 refine ⟨hp, j, hj, (zd6 hj).symm, fun x hx => ?_⟩
 have := h x hx
 rw [zd6 (by omega)] at this
 rw [this]; rfl
theorem z57 {ls : List Lk} {p : Lk → Bool} (h : ∀ x, x < ls.length → p (lkAt ls x) = false) : ls.find? p = none := by
 rw [List.find?_eq_none]
 intro k hk
 obtain ⟨i, hi, rfl⟩ := List.getElem_of_mem hk
 have := h i hi
 rw [zd6 hi] at this
 rw [this]; exact Bool.false_ne_true
def z3m (cnt : Lk → Bool) (ls : List Lk) (js : List Ck) (i : Int) : Prop := (i = -1 ∧ zde cnt ls js = none) ∨ ∃ j, j < ls.length ∧ i = (j : Int) ∧ zde cnt ls js = some (lkAt ls j)
theorem z2h (s : SlV) (q : Option Addr) (m cq : Nat) (vb vj : Value) (l : List Nd) (ls : List Lk) (bal : List UInt64) (js : List Ck) (w : World) (h : SlE Ene w (sv s) l) (h1 : SlE Elk w (.slice q m cq) ls) (h2 : SlE Enum w vb bal) (h3 : SlE Ecc w vj js) (hm : ls.length = m) (hn : l.length ≤ 1000) (hmn : m ≤ 1000) (hk : bal.length ≤ 1152921504606846976) (hj : js.length ≤ 1000) :
  Calls Tryz.prog 112 #[.agg (tr ⟨s⟩), .slice q m cq, vb, vj] w fun e w' => (∃ i : Int, e = .returned (.int .i64 i) ∧ z3m (cntB l bal) ls js i) ∧ Below w.heap.size w w' := by
 have HA := Lib.hid (fun k W (g : Below w.heap.size w W) => zn7 s vb l k bal W (zad g h) (zad g h2) hn hk)
 have HH := Lib.hid (fun c W (g : Below w.heap.size w W) => zlx vj js c W (zad g h3) hj)
 have HL := Lib.hid hm
 have HN := Lib.hid hmn
 have HFr : Hid (∀ k, zpu (cntB l bal) js k = (cntB l bal k && (decide (k.s ∈ js) && !decide (k.t ∈ js)))) := fun k => rfl
 generalize hcnt : cntB l bal = cnt at *
 obtain ⟨W0, hW0⟩ : ∃ W0, W0 = w.alloc (.cells (tr ⟨s⟩) 24) := ⟨_, rfl⟩
 have HB : Hid (Below w.heap.size w W0) := by show Below _ _ _; rw [hW0]; exact below1
 have hz : W0.heap[w.heap.size]? = some (.cells (tr ⟨s⟩) 24 (0, 0)) := by rw [hW0]; exact heap_alloc_last w _
 have HW := Lib.hid hW0
 have HZ := Lib.hid hz
 have HS := Lib.hid (zad HB.out h1)
 clear hW0 h h1 h2 h3 hm hn hmn hk hj hz hcnt
 go_enter Tryz.func112, Tryz.ntmps112
 go_upto_region 1 with fail
 rw [← HW.out]
 go_wp2_with fail
 go_loopw [9] (fun i wr => ∃ j : Nat, j ≤ m ∧ i = .int .i64 (j : Int) ∧ (∀ x, x < j → zpu cnt js (lkAt ls x) = false) ∧ Below W0.heap.size W0 wr) (fun i _ => m - (intOf i).toNat)
 case atStart => exact ⟨0, Nat.zero_le _, rfl, fun x hx => absurd hx (Nat.not_lt_zero _), Below.refl _ _⟩
 case round =>
  obtain ⟨j, hj, rfl, hx, hg⟩ := hrel
  have HX := Lib.hid hx
  have HG := Lib.hid hg
  clear hx hg
  by_cases hlt : j < m
  ·
   have i0 : (0 : Int) ≤ (j : Int) := by omega
   have i1 : (j : Int) < (m : Int) := by omega
   have u1 : (j : Int) + 1 < 10000 := by have := HN.out; omega
   have d0 : decide ((j : Int) < (m : Int)) = true := decide_eq_true i1
   have d0' : decide (j < m) = true := decide_eq_true hlt
   have HLT := Lib.hid hlt
   obtain ⟨b1, o1, rfl, _, x1⟩ := zes (zad HG.out HS.out) (by have := HL.out; omega)
   have X1 := Lib.hid x1
   have HA' := Lib.hid (HA.out (lkAt ls j))
   have HS' := Lib.hid (HH.out (lkAt ls j).s)
   have HT' := Lib.hid (HH.out (lkAt ls j).t)
   have HFj := Lib.hid (HFr.out (lkAt ls j))
   have HLd : Hid (∀ W, Below wr.heap.size wr W → ldA W (.pointer (some ⟨b1, o1 + j * 67, none⟩)) 67 = some (lk (lkAt ls j)) ∧ ldA W (.pointer (some ⟨b1, o1 + j * 67, none⟩)) 33 = some (cc (lkAt ls j).s) ∧ ldA W (.pointer (some ⟨b1, o1 + j * 67 + 33, none⟩)) 33 = some (cc (lkAt ls j).t)) := fun W g => ⟨zi9 (zbu g X1.out) (by have := HL.out; have := HLT.out; omega), yi9 (zbu g X1.out) (by have := HL.out; have := HLT.out; omega), yf5 (zbu g X1.out) (by have := HL.out; have := HLT.out; omega)⟩
   have HFind : Hid (zpu cnt js (lkAt ls j) = true → zde cnt ls js = some (lkAt ls j)) := fun e => z56 (by rw [HL.out]; exact HLT.out) HX.out e
   have HLj : Hid (∃ K, K = lkAt ls j) := ⟨_, rfl⟩
   obtain ⟨K, hK⟩ := HLj.out
   rw [← hK] at HA' HS' HT' HFj HLd HFind
   have HK := Lib.hid hK
   obtain ⟨f, hf⟩ : ∃ f, f = zpu cnt js K := ⟨_, rfl⟩
   rw [← hf] at HFj HFind
   have HFe := Lib.hid hf
   generalize cnt K = a at *
   generalize decide (K.s ∈ js) = b at *
   generalize decide (K.t ∈ js) = c at *
   have y1 := (HLd.out wr (Below.refl _ _)).1
   have z0 := (zai (zac HG.out HZ.out)).2.1
   clear x1 hlt HLj hK hf
   go_wp2_with fail
   have L0 := fun p : Wd wr.drew => zbb y1 (by decide) p
   have L1 := fun p : Wd wr.drew => zbb z0 (by decide) p
   clear y1 z0
   refine zaj [6] (by kernel_rfl) (by kernel_rfl) (by kernel_rfl) ?_
   repeat (first | (refine zae rfl rfl _ zaf ?_; (first | go_big_quiet_step (fail) | quiet_step (fail)); refine wpQuiet_nil ?_) | refine zag rfl ?_)
   refine zan rfl rfl rfl ze9 #[.agg (tr ⟨s⟩), .agg (lk K), vb] rfl ?_
   refine (HA'.out _ (zab HB.out (zah HG.out 1))).mono ?_
   rintro e u ⟨rfl, g⟩
   refine ⟨_, rfl, g, ?_⟩
   simp only [Act.put, List.setIfInBounds_toArray, List.set_cons_zero, List.set_cons_succ]
   have G1 : Hid (Below wr.heap.size wr u) := zab (zah (Below.refl _ _) 1) g
   clear g
   repeat (first | (refine zae rfl rfl _ zaf ?_; (first | go_big_quiet_step (fail) | quiet_step (fail)); refine wpQuiet_nil ?_) | refine zag rfl ?_)
   refine za3 ?_
   clear L0 L1
   have y1 := (HLd.out u G1.out).2.1
   go_wp2_with fail
   refine (HS'.out _ (zab HB.out (zab HG.out G1.out))).mono ?_
   rintro e u2 ⟨rfl, g⟩
   have G2 : Hid (Below wr.heap.size wr u2) := zab G1.out g
   clear g y1
   have y1 := (HLd.out u2 G2.out).2.2
   go_wp2_with fail
   refine (HT'.out _ (zab HB.out (zab HG.out G2.out))).mono ?_
   rintro e u3 ⟨rfl, g⟩
   have G3 : Hid (Below wr.heap.size wr u3) := zab G2.out g
   clear g y1
   cases a <;> cases b <;> cases c <;> (
    first
    | (
      have hF : Hid (f = false) := HFj.out
      go_wp2_with fail
      go_roundw
      case rel => exact ⟨j + 1, HLT.out, by go_num, (fun x hx => by
       rcases Nat.lt_succ_iff_lt_or_eq.1 hx with h | rfl
       ·
        exact HX.out x h
       ·
        rw [← HK.out, ← HFe.out, hF.out]), zab HG.out G3.out⟩
      case measure => simp [intOf]; have := HLT.out; omega)
    | (
      have hF : Hid (f = true) := HFj.out
      go_wp2_with fail
      go_ret
      exact ⟨⟨_, rfl, .inr ⟨j, by rw [HL.out]; exact HLT.out, rfl, by rw [← HK.out]; exact HFind.out hF.out⟩⟩, zab HB.out (zab HG.out G3.out)⟩))
  ·
   obtain rfl : j = m := by omega
   have d0 : decide ((j : Int) < (j : Int)) = false := decide_eq_false (Int.lt_irrefl _)
   have d0' : decide (j < j) = false := decide_eq_false (Nat.lt_irrefl _)
   have hF : Hid (zde cnt ls js = none) := z57 fun x hx => HX.out x (by rw [← HL.out]; exact hx)
   clear hlt
   go_wp2_with fail
   go_ret
   exact ⟨⟨_, rfl, .inl ⟨rfl, hF.out⟩⟩, zab HB.out HG.out⟩
theorem zum (s : SlV) (u v : Value) (l : List Nd) (ls : List Lk) (bal : List UInt64) (w : World) (h : SlE Ene w (sv s) l) (h1 : SlE Elk w u ls) (h2 : SlE Enum w v bal) (hn : l.length ≤ 1000) (hm : ls.length ≤ 1000) (hk : bal.length ≤ 1152921504606846976) :
  Calls Tryz.prog 111 #[.agg (tr ⟨s⟩), u, v] w fun e w' => e = .returned (.bool (zeg l ls bal)) ∧ Below w.heap.size w w' := by
 have HA := Lib.hid (fun W (g : Below w.heap.size w W) => zev s l W (zad g h) hn)
 have HV := Lib.hid (fun W (g : Below w.heap.size w W) => zzk u ls W (zad g h1) hm)
 have HC := Lib.hid (fun W (g : Below w.heap.size w W) => zjm v bal W (zad g h2) hk)
 have HT : Hid (zeg l ls bal = (decide (MayT l) && (mayL ls && mayB bal))) := rfl
 rw [HT.out]
 generalize decide (MayT l) = a at *
 generalize mayL ls = b at *
 generalize mayB bal = c at *
 obtain ⟨W0, hW0⟩ : ∃ W0, W0 = w.alloc (.cells (tr ⟨s⟩) 24) := ⟨_, rfl⟩
 have HB : Hid (Below w.heap.size w W0) := by show Below _ _ _; rw [hW0]; exact below1
 have hz : W0.heap[w.heap.size]? = some (.cells (tr ⟨s⟩) 24 (0, 0)) := by rw [hW0]; exact heap_alloc_last w _
 have HW := Lib.hid hW0
 have z0 := (zai hz).2.1
 clear hW0 h h1 h2 hn hm hk hz HT
 go_enter Tryz.func111, Tryz.ntmps111
 go_upto_region 1 with fail
 rw [← HW.out]
 go_wp2_with fail
 refine (HA.out W0 HB.out).mono ?_
 rintro e w1 ⟨rfl, g⟩
 have G1 := Lib.hid (zab HB.out g)
 clear g z0
 go_wp2_with fail
 refine (HV.out _ G1.out).mono ?_
 rintro e w2 ⟨rfl, g⟩
 have G2 := Lib.hid (zab G1.out g)
 clear g
 go_wp2_with fail
 refine (HC.out _ G2.out).mono ?_
 rintro e w3 ⟨rfl, g⟩
 have G3 := Lib.hid (zab G2.out g)
 clear g
 cases a <;> cases b <;> cases c <;> (
  go_wp2_with fail
  go_ret
  exact ⟨rfl, G3.out⟩)
def z87 (l : List Ck) (w : World) (e : Ending) (w' : World) : Prop := ∃ v, e = .returned v ∧ OwnE Ecc w' w.heap.size v l ∧ Below w.heap.size w w'
def slN : Value → Nat
 | .slice _ n _ => n
 | _ => 0
theorem z7y {w : World} {base : Nat} {v : Value} {l : List Ck} (h : OwnE Ecc w base v l) : slN v = l.length := by obtain ⟨p, c, rfl⟩ := zb4 h; rfl
theorem zxg (s : SlV) (q : Option Addr) (m cq : Nat) (vb vj : Value) (l : List Nd) (ls : List Lk) (bal : List UInt64) (js : List Ck) (w : World) (h : SlE Ene w (sv s) l) (h1 : SlE Elk w (.slice q m cq) ls) (h2 : SlE Enum w vb bal) (h3 : SlE Ecc w vj js) (hm : ls.length = m) (hn : l.length ≤ 1000) (hk : bal.length ≤ 1152921504606846976) (hj : js.length + m ≤ 1000) :
  Calls Tryz.prog 70 #[.agg (tr ⟨s⟩), .slice q m cq, vb, vj] w (z87 (zc3 l ls bal js) w) := by
 have HT := Lib.hid (fun W (g : Below w.heap.size w W) => zum s (.slice q m cq) vb l ls bal W (zad g h) (zad g h1) (zad g h2) hn (by omega) hk)
 have HF := Lib.hid (fun ks v W (g : Below w.heap.size w W) (hv : SlE Ecc W v ks) (hl : ks.length ≤ 1000) => z2h s q m cq vb v l ls bal ks W (zad g h) (zad g h1) (zad g h2) hv hm hn (by omega) hk hl)
 have HNo : Hid (zeg l ls bal = false → zc3 l ls bal js = js) := zy6
 have HYes : Hid (zeg l ls bal = true → zc3 l ls bal js = zoz (cntB l bal) ls js) := zjc
 generalize zeg l ls bal = t at *
 generalize zc3 l ls bal js = r at *
 generalize cntB l bal = cnt at *
 have HL := Lib.hid hm
 have HJl := Lib.hid hj
 obtain ⟨W0, hW0⟩ : ∃ W0, W0 = w.alloc (.cells (tr ⟨s⟩) 24) := ⟨_, rfl⟩
 have HB : Hid (Below w.heap.size w W0) := by show Below _ _ _; rw [hW0]; exact below1
 have hz : W0.heap[w.heap.size]? = some (.cells (tr ⟨s⟩) 24 (0, 0)) := by rw [hW0]; exact heap_alloc_last w _
 have HW := Lib.hid hW0
 have HZ := Lib.hid hz
 have HS := Lib.hid (zad HB.out h1)
 have HJ := Lib.hid (zad HB.out h3)
 clear hW0 h h1 h2 h3 hm hn hk hj hz
 go_enter Tryz.func70, Tryz.ntmps70
 go_upto_region 1 with fail
 rw [← HW.out]
 go_wp2_with (at_builtin; refine za1 Kcc _ rfl (.const (.slice none 0 0)) (.tmp 12) rfl W0.heap.size _ [] rfl (za8 _ _ _) _ js rfl HJ.out (by have := HJl.out; simp; omega) (Nat.le_refl _) ?_; intro v2 w2 ho2 hg2; rw [List.nil_append] at ho2; have O2 := Lib.hid ho2; have G2 := Lib.hid hg2.nil; clear ho2 hg2; have z0 := (zai (zac G2.out HZ.out)).2.1)
 refine (HT.out _ (zab HB.out G2.out)).mono ?_
 rintro e w3 ⟨rfl, g3⟩
 replace O2 := Lib.hid (za5 g3 O2.out)
 have G3 := Lib.hid (zab G2.out g3)
 clear g3 z0 G2
 have z0 := (zai (zac G3.out HZ.out)).2.1
 cases t
 ·
  have hR := Lib.hid (HNo.out rfl)
  go_wp2_with fail
  go_ret
  exact ⟨v2, rfl, by rw [hR.out]; exact zbi O2.out HB.out.size, zab HB.out G3.out⟩
 ·
  have hR := Lib.hid (HYes.out rfl)
  go_wp2_with fail
  refine (HF.out js v2 _ (zab HB.out G3.out) (za2 O2.out) (by have := HJl.out; omega)).mono ?_
  rintro e w4 ⟨⟨i4, rfl, hi4⟩, g4⟩
  replace O2 := Lib.hid (za5 g4 O2.out)
  have G4 := Lib.hid (zab G3.out g4)
  have I4 := Lib.hid hi4
  clear g4 z0 hi4
  go_wp2_with fail
  go_loopw [9, 11] (fun a i wr => ∃ (ks : List Ck) (z : Int), i = .int .i64 z ∧ OwnE Ecc wr W0.heap.size a ks ∧ zoz cnt ls ks = zoz cnt ls js ∧ ks.length + zlg ls ks ≤ js.length + ls.length ∧ z3m cnt ls ks z ∧ Below W0.heap.size W0 wr) (fun a _ _ => js.length + ls.length + 1 - slN a)
  case atStart => exact ⟨js, i4, rfl, O2.out, rfl, Nat.add_le_add_left (zwv js) _, I4.out, G4.out⟩
  case round =>
   obtain ⟨ks, z, rfl, ho, hmo, hle, hat, hg⟩ := hrel
   have O := Lib.hid ho
   have HMo := Lib.hid hmo
   have HLe := Lib.hid hle
   have HG := Lib.hid hg
   clear ho hmo hle hg
   rcases hat with ⟨rfl, hno⟩ | ⟨j, hjl, rfl, hsome⟩
   ·
    have hF : Hid (r = ks) := by show r = ks; rw [hR.out, ← HMo.out]; exact zdz hno _
    clear hno
    go_wp2_with fail
    go_ret
    exact ⟨_, rfl, by rw [hF.out]; exact zbi O.out HB.out.size, zab HB.out HG.out⟩
   ·
    have i0 : (0 : Int) ≤ (j : Int) := by omega
    have i1 : (j : Int) < (m : Int) := by have := HL.out; omega
    have d0 : decide ((0 : Int) ≤ (j : Int)) = true := decide_eq_true i0
    obtain ⟨b1, o1, rfl, _, x1⟩ := zes (zad HG.out HS.out) (by omega)
    have y1 := yf5 x1 hjl
    have HOp := Lib.hid (zfo hsome)
    have HSt := Lib.hid (zt3 hsome)
    have HZb : Hid (W0.heap.size ≤ wr.heap.size) := HG.out.size
    have HSl := Lib.hid (z7y O.out)
    generalize (lkAt ls j).t = x at *
    clear hjl hsome x1
    go_wp2_with (at_builtin; refine za1 Kcc _ rfl (.tmp 28) (.tmp 34) rfl W0.heap.size _ ks rfl (zaw O.out _) _ [x] rfl (zfx _ _ _ rfl) (by have := HLe.out; have := HJl.out; have := HL.out; simp; omega) (by have := HZb.out; simp; omega) ?_; intro v5 w5 ho5 hg5; have O5 := Lib.hid ho5; have G5 : Hid (Below W0.heap.size W0 w5) := HG.out.trans ((Gr.alloc hg5).own O.out HZb.out); clear ho5 hg5; have z0 := (zai (zac G5.out HZ.out)).2.1)
    refine (HF.out _ v5 _ (zab HB.out G5.out) (za2 O5.out) (by have := HLe.out; have := HJl.out; have := HL.out; have := HOp.out; simp; omega)).mono ?_
    rintro e w6 ⟨⟨i6, rfl, hi6⟩, g6⟩
    replace O5 := Lib.hid (za5 g6 O5.out)
    have G6 := Lib.hid (zab G5.out g6)
    have I6 := Lib.hid hi6
    clear g6 z0 hi6 G5
    go_wp2_with fail
    go_roundw
    case rel => exact ⟨_, i6, rfl, O5.out, HSt.out.symm.trans HMo.out, by have := HOp.out; have := HLe.out; rw [List.length_append, List.length_singleton]; omega, I6.out, G6.out⟩
    case measure =>
     have e1 := z7y O5.out
     have e2 := HSl.out
     have := HOp.out; have := HLe.out
     rw [e1, e2, List.length_append, List.length_singleton]
     omega
theorem z7r (s : SlV) (u vb vj : Value) (l : List Nd) (ls : List Lk) (bal : List UInt64) (js : List Ck) (w : World) (h : SlE Ene w (sv s) l) (h1 : SlE Elk w u ls) (h2 : SlE Enum w vb bal) (h3 : SlE Ecc w vj js) (hn : l.length ≤ 1000) (hk : bal.length ≤ 1152921504606846976) (hj : js.length + ls.length ≤ 1000) :
  Calls Tryz.prog 70 #[.agg (tr ⟨s⟩), u, vb, vj] w (z87 (zc3 l ls bal js) w) := by
 have k := h1
 obtain ⟨p, cp, rfl, _⟩ := zal h1
 exact zxg s p _ cp vb vj l ls bal js w h k h2 h3 rfl hn hk hj
open Go.RowKit
structure Bv (w W : World) (s : SlV) (fin : Ck) (R : Nat) (o : Ck) : Prop where
 t : W.heap[w.heap.size]? = some (.cells (tr ⟨s⟩) 24 (0, 0))
 f : W.heap[w.heap.size + 1]? = some (.cells (cc fin) 36 (0, 0))
 r : W.heap[w.heap.size + 2]? = some (.cells (cc zcc) 36 (0, 0))
 o : W.heap[R]? = some (.cells (cc o) 36 (0, 0))
 g : Below w.heap.size w W
 R : w.heap.size + 3 ≤ R
section
variable {w W W' : World} {s : SlV} {fin o : Ck} {R : Nat}
theorem Bv.keep (h : Bv w W s fin R o) (g : Below W.heap.size W W') : Bv w W' s fin R o := ⟨zac g h.t, zac g h.f, zac g h.r, zac g h.o, zab h.g g, h.R⟩
theorem Bv.put (h : Bv w W s fin R o) (c : Ck) : Bv w (stA W (.pointer (some ⟨R, 0, none⟩)) (.agg (cc c))) s fin R c :=
 have := h.R
 ⟨(zf3 (by omega)).trans h.t, (zf3 (by omega)).trans h.f, (zf3 (by omega)).trans h.r, zgz h.o, zas h.g (by omega), h.R⟩
theorem z34 {W3 : World} (hB : Below w.heap.size w W3) (k0 : W3.heap[w.heap.size]? = some (.cells (tr ⟨s⟩) 24 (0, 0))) (k1 : W3.heap[w.heap.size + 1]? = some (.cells (cc fin) 36 (0, 0))) (k2 : W3.heap[w.heap.size + 2]? = some (.cells (cc zcc) 36 (0, 0))) : Bv w (W3.alloc (.cells (cc fin) 36)) s fin W3.heap.size fin := by
 have := (Array.getElem?_eq_some_iff.1 k2).1
 exact ⟨zac below1 k0, zac below1 k1, zac below1 k2, heap_alloc_last W3 _, zab hB below1, by omega⟩
end
theorem zmg {ok : Ck → Bool} {js : List Ck} {j : Nat} (hj : j < js.length) (o : Ck) : zfh zbh ok (js.drop j) o = zfh zbh ok (js.drop (j + 1)) (if (ok (ckAt js j) && betC zbh o (ckAt js j)) = true then ckAt js j else o) := by
 rw [List.drop_eq_getElem_cons hj, zcv hj]; rfl
theorem zug (a b : Rt) (w : World) :
  Calls Tryz.prog 114 #[.agg (rc a), .agg (rc b)] w fun e w' => e = .returned (.bool (zbh a b)) ∧ Below w.heap.size w w' := by
 have hsa := zay a
 have hsb := zay b
 go_enter Tryz.func114, Tryz.ntmps114
 go_wp2
 go_loopw [5] (fun i wr => ∃ k n : Nat, k ≤ 32 ∧ i = .int .i64 k ∧ zbh a b = zec a b k ∧ wr = ((w.alloc (.cells (rc a) 34)).alloc (.cells (rc b) 34)).drewN n) (fun i _ => 32 - (intOf i).toNat)
 case atStart => exact ⟨0, 0, by omega, rfl, rfl, rfl⟩
 case round =>
  obtain ⟨k, n, hk, rfl, hl, rfl⟩ := hrel
  have HL := Lib.hid hl; clear hl
  by_cases hlt : k < 32
  ·
   have i0 : (0 : Int) ≤ (k : Int) := by omega
   have i1 : (k : Int) < 32 := by omega
   by_cases hs : at8 a k = at8 b k
   ·
    have e : (at8 a k != at8 b k) = false := by simp [hs]
    have HE := Lib.hid (zi6 a b k hlt hs); clear hs
    go_wp2
    go_quiet (fail)
    go_wp2
    go_roundw
    case rel => exact ⟨k + 1, _, by omega, by go_num, by rw [HL.out, HE.out], rfl⟩
    case measure => simp [intOf]; omega
   ·
    have e : (at8 a k != at8 b k) = true := by simp [hs]
    have HE := Lib.hid (zh0 a b k hlt hs); clear hs
    go_wp2
    go_quiet (fail)
    go_wp2
    go_quiet (fail)
    go_wp2
    go_ret
    exact ⟨by rw [HL.out, HE.out]; rfl, zah (zah (zah zy0 _) _) _⟩
  ·
   obtain rfl : k = 32 := by omega
   go_wp2
   go_ret
   exact ⟨by rw [HL.out, zkw]; rfl, zah zy0 _⟩
theorem zn6 (a b : Ck) (w : World) :
  Calls Tryz.prog 73 #[.agg (cc a), .agg (cc b)] w fun e w' => e = .returned (.bool (betC zbh a b)) ∧ Below w.heap.size w w' := by
 have HA := Lib.hid (fun W => zug a.root b.root W)
 obtain ⟨A, hA⟩ : ∃ A, A = a.epoch.toNat := ⟨_, rfl⟩
 obtain ⟨B, hB'⟩ : ∃ B, B = b.epoch.toNat := ⟨_, rfl⟩
 obtain ⟨E1, h1⟩ : ∃ E, E = decide (A < B) := ⟨_, rfl⟩
 obtain ⟨E2, h2⟩ : ∃ E, E = decide (B = A) := ⟨_, rfl⟩
 have HT : Hid (betC zbh a b = (E1 || (E2 && zbh a.root b.root))) := by
  show _ = _
  unfold betC
  rw [h1, h2, hA, hB', show decide (b.epoch = a.epoch) = decide (b.epoch.toNat = a.epoch.toNat) by rw [Bool.eq_iff_iff, decide_eq_true_iff, decide_eq_true_iff]; exact UInt64.toNat_inj.symm]
 rw [HT.out]
 obtain ⟨W0, hW0⟩ : ∃ W0, W0 = (w.alloc (.cells (cc a) 36)).alloc (.cells (cc b) 36) := ⟨_, rfl⟩
 obtain ⟨hB, k0, k1, hz0⟩ := zc2 w _ _ _ _ W0 hW0
 have HB := Lib.hid hB
 have HW := Lib.hid hW0
 have K0 := Lib.hid k0
 have K1 := Lib.hid k1
 have HAe := Lib.hid hA
 have HBe := Lib.hid hB'
 have z0 := zb0 k0
 have z1 := zb0 k1
 generalize zbh a.root b.root = r at *
 clear hW0 hB k0 k1 hz0 HT hA hB'
 go_enter Tryz.func73, Tryz.ntmps73
 go_upto_region 1 with fail
 rw [← HW.out]
 go_wp2_with fail
 refine (HA.out W0).mono ?_
 rintro e w1 ⟨rfl, g⟩
 have G1 := Lib.hid (zab HB.out g)
 have y0 := (ck_v (zac g K0.out)).e
 have y1 := (ck_v (zac g K1.out)).e
 rw [← HAe.out] at y0
 rw [← HBe.out] at y1
 have t1 : decide ((A : Int) < (B : Int)) = E1 := by rw [h1]; exact decide_eq_decide.2 (by omega)
 have t1' : decide (A < B) = E1 := h1.symm
 have t2 : ((B : Int) == (A : Int)) = E2 := by rw [h2, Bool.eq_iff_iff, beq_iff_eq, decide_eq_true_iff]; omega
 have t2' : (B == A) = E2 := by rw [h2, Bool.eq_iff_iff, beq_iff_eq, decide_eq_true_iff]
 have t2'' : decide (B = A) = E2 := h2.symm
 clear g z0 z1 h1 h2
 cases E1 <;> cases E2 <;> cases r <;> (
  go_wp2_with fail
  go_ret
  exact ⟨rfl, G1.out⟩)
theorem ze8 : ∀ args w, (callFunc 73 args).run Tryz.prog w = .ok (.enter 73 args) w := za7 Tryz.func73 (by kernel_rfl) (by kernel_rfl)
theorem z9f {α : Type} {l : List α} {P : α → Bool} {q : Nat} (h : q < l.length) : (l.take (q + 1)).any P = ((l.take q).any P || P l[q]) := by
 rw [List.take_succ_eq_append_getElem h, List.any_append]; simp
theorem zv3 {α : Type} {l : List α} {P : α → Bool} {q : Nat} (h : q < l.length) : (l.take (q + 1)).filter P = (l.take q).filter P ++ (if P l[q] = true then [l[q]] else []) := by
 rw [List.take_succ_eq_append_getElem h, List.filter_append, List.filter_cons, List.filter_nil]
def finK (cnt : Lk → Bool) (js : List Ck) (c : Ck) (k : Lk) : Bool := cnt k && (decide (k.t ∈ js) && (decide (k.s = c) && decide (k.t.epoch.toNat = c.epoch.toNat + 1)))
theorem z0z (cnt : Lk → Bool) (ls : List Lk) (js : List Ck) (c : Ck) : zfa cnt ls js c = ls.any (finK cnt js c) := rfl
theorem zr1 (s : SlV) (q p : Option Addr) (m cq n cp : Nat) (vb : Value) (l : List Nd) (ls : List Lk) (bal : List UInt64) (js : List Ck) (w : World) (h : SlE Ene w (sv s) l) (h1 : SlE Elk w (.slice q m cq) ls) (h2 : SlE Enum w vb bal) (h3 : SlE Ecc w (.slice p n cp) js) (hm : ls.length = m) (hjn : js.length = n) (hn : l.length ≤ 1000) (hk : bal.length ≤ 1152921504606846976) (hmn : m ≤ 1000) (hj : n ≤ 1000) :
  Calls Tryz.prog 113 #[.agg (tr ⟨s⟩), .slice q m cq, vb, .slice p n cp] w (z87 (zb1 l ls bal js) w) := by
 have HT := Lib.hid (fun W (g : Below w.heap.size w W) => zum s (.slice q m cq) vb l ls bal W (zad g h) (zad g h1) (zad g h2) hn (by omega) hk)
 have HA := Lib.hid (fun k W (g : Below w.heap.size w W) => zn7 s vb l k bal W (zad g h) (zad g h2) hn hk)
 have HH := Lib.hid (fun c W (g : Below w.heap.size w W) => zlx (.slice p n cp) js c W (zad g h3) (by omega))
 have HNo : Hid (zeg l ls bal = false → zb1 l ls bal js = []) := zpq
 have HYes : Hid (zeg l ls bal = true → zb1 l ls bal js = js.filter (zfa (cntB l bal) ls js)) := zmy
 have HUp : Hid (zeg l ls bal = true → ∀ i, i < ls.length → 1 ≤ (lkAt ls i).t.epoch.toNat) := fun e i hi => by
  have := ((zf9.1 (zu4.1 e).2.1).1 i hi).1.1; omega
 generalize zeg l ls bal = t at *
 generalize zb1 l ls bal js = r at *
 generalize cntB l bal = cnt at *
 have HL := Lib.hid hm
 have HJn := Lib.hid hjn
 have HN := Lib.hid hj
 have HM := Lib.hid hmn
 obtain ⟨W0, hW0⟩ : ∃ W0, W0 = w.alloc (.cells (tr ⟨s⟩) 24) := ⟨_, rfl⟩
 have HB : Hid (Below w.heap.size w W0) := by show Below _ _ _; rw [hW0]; exact below1
 have hz : W0.heap[w.heap.size]? = some (.cells (tr ⟨s⟩) 24 (0, 0)) := by rw [hW0]; exact heap_alloc_last w _
 have HW := Lib.hid hW0
 have HZ := Lib.hid hz
 have HS := Lib.hid (zad HB.out h1)
 have HJ := Lib.hid (zad HB.out h3)
 have z0 := (zai hz).2.1
 clear hW0 h h1 h2 h3 hm hjn hn hk hj hmn hz
 go_enter Tryz.func113, Tryz.ntmps113
 go_upto_region 1 with fail
 rw [← HW.out]
 go_wp2_with fail
 refine (HT.out _ HB.out).mono ?_
 rintro e w3 ⟨rfl, g3⟩
 have G3 := Lib.hid g3
 clear g3 z0
 cases t
 ·
  have hR := Lib.hid (HNo.out rfl)
  go_wp2_with fail
  go_loopw [9, 11] (fun a i wr => i = .int .i64 0 ∧ a = .slice none 0 0 ∧ Below W0.heap.size W0 wr) (fun _ _ _ => 0)
  case atStart => exact ⟨rfl, rfl, G3.out⟩
  case round =>
   obtain ⟨rfl, rfl, hg⟩ := hrel
   have HG := Lib.hid hg
   clear hg
   obtain ⟨d, hd⟩ : ∃ d, d = decide ((0 : Int) < (n : Int)) := ⟨_, rfl⟩
   have hd' : decide (0 < n) = d := by rw [hd]; exact decide_eq_decide.2 (by omega)
   replace hd := hd.symm
   cases d <;> (
    go_wp2_with fail
    go_ret
    exact ⟨_, rfl, by rw [hR.out]; exact za8 _ _ _, zab HB.out HG.out⟩)
 ·
  have hR := Lib.hid (HYes.out rfl)
  have HUp2 := Lib.hid (HUp.out rfl)
  go_wp2_with fail
  go_loopw [9, 11] (fun a i wr => ∃ j : Nat, j ≤ n ∧ i = .int .i64 (j : Int) ∧ OwnE Ecc wr W0.heap.size a ((js.take j).filter (zfa cnt ls js)) ∧ Below W0.heap.size W0 wr) (fun _ i _ => n - (intOf i).toNat)
  case atStart => exact ⟨0, Nat.zero_le _, rfl, za8 _ _ _, G3.out⟩
  case round =>
   obtain ⟨j, hj, rfl, ho, hg⟩ := hrel
   obtain ⟨wo, rfl⟩ : ∃ wo : World, wo = wr := ⟨_, rfl⟩
   have O := Lib.hid ho
   have HG := Lib.hid hg
   clear ho hg
   by_cases hlt : j < n
   ·
    have i0 : (0 : Int) ≤ (j : Int) := by omega
    have i1 : (j : Int) < (n : Int) := by omega
    have u1 : (j : Int) + 1 < 10000 := by have := HN.out; omega
    have d0 : decide ((j : Int) < (n : Int)) = true := decide_eq_true i1
    have d0' : decide (j < n) = true := decide_eq_true hlt
    have HLT := Lib.hid hlt
    have HFj : Hid (zfa cnt ls js (ckAt js j) = ls.any (finK cnt js (ckAt js j))) := z0z cnt ls js _
    have HSt : Hid ((js.take (j + 1)).filter (zfa cnt ls js) = (js.take j).filter (zfa cnt ls js) ++ (if zfa cnt ls js (ckAt js j) = true then [ckAt js j] else [])) := by
     show _ = _
     rw [zcv (by rw [HJn.out]; exact hlt)]
     exact zv3 (by rw [HJn.out]; exact hlt)
    obtain ⟨b1, o1, rfl, _, x1⟩ := zdq (zad HG.out HJ.out) (by have := HJn.out; omega)
    have X1 := Lib.hid x1
    have HCj : Hid (∀ W, Below wo.heap.size wo W → ldA W (.pointer (some ⟨b1, o1 + j * 33, none⟩)) 33 = some (cc (ckAt js j)) ∧ W.cell? ⟨b1, o1 + j * 33, none⟩ = some (.int .u64 ((ckAt js j).epoch.toNat : Int))) := fun W g => ⟨zgi (zbu g X1.out) (by have := HJn.out; have := HLT.out; omega), yeq (zbu g X1.out) (by have := HJn.out; have := HLT.out; omega)⟩
    obtain ⟨pre, hpre⟩ : ∃ pre, pre = (js.take j).filter (zfa cnt ls js) := ⟨_, rfl⟩
    have HPl : Hid (pre.length ≤ 1000) := by
     show _ ≤ _
     rw [hpre]
     have a1 := List.length_filter_le (zfa cnt ls js) (js.take j)
     rw [List.length_take] at a1
     have := HN.out
     omega
    rw [← hpre] at O HSt
    generalize hC : ckAt js j = C at *
    clear hlt x1 hpre hC
    go_wp2_with fail
    go_loopw [12, 13] (fun x k wr => ∃ y : Nat, y ≤ m ∧ k = .int .i64 (y : Int) ∧ x = .bool ((ls.take y).any (finK cnt js C)) ∧ Below wo.heap.size wo wr) (fun _ k _ => m - (intOf k).toNat)
    case atStart => exact ⟨0, Nat.zero_le _, rfl, rfl, Below.refl _ _⟩
    case round =>
     obtain ⟨y, hy, rfl, rfl, hi⟩ := hrel
     have HI := Lib.hid hi
     clear hi
     by_cases hym : y < m
     ·
      have k0 : (0 : Int) ≤ (y : Int) := by omega
      have k1 : (y : Int) < (m : Int) := by omega
      have k2 : (y : Int) + 1 < 10000 := by have := HM.out; omega
      have d1 : decide ((y : Int) < (m : Int)) = true := decide_eq_true k1
      have d1' : decide (y < m) = true := decide_eq_true hym
      have HYM := Lib.hid hym
      obtain ⟨b2, o2, rfl, _, x2⟩ := zes (zad (zab HG.out HI.out) HS.out) (by have := HL.out; omega)
      have X2 := Lib.hid x2
      have HLd : Hid (∀ W, Below wr.heap.size wr W → ldA W (.pointer (some ⟨b2, o2 + y * 67, none⟩)) 67 = some (lk (lkAt ls y)) ∧ ldA W (.pointer (some ⟨b2, o2 + y * 67, none⟩)) 33 = some (cc (lkAt ls y).s) ∧ ldA W (.pointer (some ⟨b2, o2 + y * 67 + 33, none⟩)) 33 = some (cc (lkAt ls y).t) ∧ W.cell? ⟨b2, o2 + y * 67 + 33, none⟩ = some (.int .u64 ((lkAt ls y).t.epoch.toNat : Int))) := fun W g => ⟨zi9 (zbu g X2.out) (by have := HL.out; have := HYM.out; omega), yi9 (zbu g X2.out) (by have := HL.out; have := HYM.out; omega), yf5 (zbu g X2.out) (by have := HL.out; have := HYM.out; omega), ydq (zbu g X2.out) (by have := HL.out; have := HYM.out; omega)⟩
      have HSx : Hid ((ls.take (y + 1)).any (finK cnt js C) = ((ls.take y).any (finK cnt js C) || finK cnt js C (lkAt ls y))) := by
       show _ = _
       rw [zd6 (by rw [HL.out]; exact hym)]
       exact z9f (by rw [HL.out]; exact hym)
      have hT1 := HUp2.out y (by rw [HL.out]; exact hym)
      have HA' := Lib.hid (HA.out (lkAt ls y))
      have HT' := Lib.hid (HH.out (lkAt ls y).t)
      generalize lkAt ls y = K at *
      obtain ⟨E1, hE1⟩ : ∃ E, E = decide (K.s = C) := ⟨_, rfl⟩
      obtain ⟨E2, hE2⟩ : ∃ E, E = decide (K.t.epoch.toNat = C.epoch.toNat + 1) := ⟨_, rfl⟩
      have HFK : Hid (finK cnt js C K = (cnt K && (decide (K.t ∈ js) && (E1 && E2)))) := by show _ = _; rw [hE1, hE2]; rfl
      have HE1 := Lib.hid hE1
      generalize cnt K = a1 at *
      generalize decide (K.t ∈ js) = a2 at *
      obtain ⟨any0, hany⟩ : ∃ any0, any0 = (ls.take y).any (finK cnt js C) := ⟨_, rfl⟩
      rw [← hany] at HSx
      rw [← hany]
      have HC2 := Lib.hid (fun W (g : Below wr.heap.size wr W) => HCj.out W (zab HI.out g))
      obtain ⟨Te, hTe⟩ : ∃ Te, Te = K.t.epoch.toNat := ⟨_, rfl⟩
      have hTl : Te < 18446744073709551616 := by rw [hTe]; exact K.t.epoch.toNat_lt
      obtain ⟨Ce, hCe⟩ : ∃ Ce, Ce = C.epoch.toNat := ⟨_, rfl⟩
      rw [← hTe] at HLd hT1 hE2
      rw [← hCe] at HC2 hE2
      obtain ⟨Qe, hQe⟩ : ∃ Qe : Nat, (Te : Int) - 1 = (Qe : Int) := ⟨Te - 1, by omega⟩
      have hQ0 : (0 : Int) ≤ (Qe : Int) := by omega
      have hQl : (Qe : Int) < 18446744073709551616 := by omega
      have t2 : ((Qe : Int) == (Ce : Int)) = E2 := by rw [hE2, Bool.eq_iff_iff, beq_iff_eq, decide_eq_true_iff]; omega
      have t2' : (Qe == Ce) = E2 := by rw [hE2, Bool.eq_iff_iff, beq_iff_eq, decide_eq_true_iff]; omega
      have t2'' : decide (Qe = Ce) = E2 := by rw [hE2]; exact decide_eq_decide.2 (by omega)
      have HQ := Lib.hid (show (Te : Int) - 1 = (Qe : Int) ∧ (0 : Int) ≤ (Qe : Int) ∧ (Qe : Int) < 18446744073709551616 ∧ ((Qe : Int) == (Ce : Int)) = E2 ∧ (Qe == Ce) = E2 ∧ decide (Qe = Ce) = E2 from ⟨hQe, hQ0, hQl, t2, t2', t2''⟩)
      have y1 := (HLd.out wr (Below.refl _ _)).1
      have z0 := (zai (zac (zab HG.out HI.out) HZ.out)).2.1
      clear hym x2 hE1 hE2 hany hTe hCe hQe hQ0 hQl t2 t2' t2'' hT1 hTl
      go_wp2_with fail
      have L0 := fun p : Wd wr.drew => zbb y1 (by decide) p
      have L1 := fun p : Wd wr.drew => zbb z0 (by decide) p
      clear y1 z0
      refine zaj [6] (by kernel_rfl) (by kernel_rfl) (by kernel_rfl) ?_
      repeat (first | (refine zae rfl rfl _ zaf ?_; (first | go_big_quiet_step (fail) | quiet_step (fail)); refine wpQuiet_nil ?_) | refine zag rfl ?_)
      refine zan rfl rfl rfl ze9 #[.agg (tr ⟨s⟩), .agg (lk K), vb] rfl ?_
      refine (HA'.out _ (zab HB.out (zab HG.out (zah HI.out 1)))).mono ?_
      rintro e u ⟨rfl, g⟩
      refine ⟨_, rfl, g, ?_⟩
      simp only [Act.put, List.setIfInBounds_toArray, List.set_cons_zero, List.set_cons_succ]
      have G1 : Hid (Below wr.heap.size wr u) := zab (zah (Below.refl _ _) 1) g
      clear g
      repeat (first | (refine zae rfl rfl _ zaf ?_; (first | go_big_quiet_step (fail) | quiet_step (fail)); refine wpQuiet_nil ?_) | refine zag rfl ?_)
      refine za3 ?_
      clear L0 L1
      have y1 := (HLd.out u G1.out).2.2.1
      go_wp2_with fail
      refine (HT'.out _ (zab HB.out (zab HG.out (zab HI.out G1.out)))).mono ?_
      rintro e u2 ⟨rfl, g⟩
      have G2 : Hid (Below wr.heap.size wr u2) := zab G1.out g
      clear g y1
      obtain ⟨_, y1, _, y2⟩ := HLd.out u2 G2.out
      obtain ⟨y3, y4⟩ := HC2.out u2 G2.out
      have t1 := HE1.out.symm
      obtain ⟨q1, q2, q3, q4, q5, q6⟩ := HQ.out
      cases any0 <;> cases a1 <;> cases a2 <;> cases E1 <;> (
       go_wp2_with fail
       go_quiet (fail)
       go_wp2_with fail
       go_roundw
       case rel => exact ⟨y + 1, HYM.out, by go_num, by rw [HSx.out, HFK.out]; first | done | rfl | (cases E2 <;> rfl), zah (zab HI.out G2.out) _⟩
       case measure => simp [intOf]; have := HYM.out; omega)
     ·
      obtain rfl : y = m := by omega
      have d1 : decide ((y : Int) < (y : Int)) = false := decide_eq_false (Int.lt_irrefl _)
      have d1' : decide (y < y) = false := decide_eq_false (Nat.lt_irrefl _)
      have hF : Hid ((ls.take y).any (finK cnt js C) = zfa cnt ls js C) := by
       show _ = _
       rw [List.take_of_length_le (by rw [HL.out]; exact Nat.le_refl _)]; exact HFj.out.symm
      have HZb : Hid (W0.heap.size ≤ wr.heap.size) := (zab HG.out HI.out).size
      have O2 := Lib.hid (za5 HI.out O.out)
      have y1 := (HCj.out wr HI.out).1
      have HBw : Hid (Below W0.heap.size W0 wr) := zab HG.out HI.out
      rw [hF.out]
      generalize zfa cnt ls js C = f at *
      clear hym
      cases f
      ·
       go_wp2_with fail
       go_roundw
       case rel => exact ⟨j + 1, HLT.out, by go_num, by rw [HSt.out]; simpa using O2.out, HBw.out⟩
       case measure => simp [intOf]; have := HLT.out; omega
      ·
       go_wp2_with (at_builtin; refine za1 Kcc _ rfl (.tmp 84) (.tmp 89) rfl W0.heap.size _ pre rfl (zaw O2.out _) _ [C] rfl (zfx _ _ _ rfl) (by have := HPl.out; simp; omega) (by have := HZb.out; simp; omega) ?_; intro v5 w5 ho5 hg5; have O5 := Lib.hid ho5; have G5 : Hid (Below W0.heap.size W0 w5) := HBw.out.trans ((Gr.alloc hg5).own O2.out HZb.out); clear ho5 hg5)
       go_roundw
       case rel => exact ⟨j + 1, HLT.out, by go_num, by rw [HSt.out]; simpa using O5.out, G5.out⟩
       case measure => simp [intOf]; have := HLT.out; omega
   ·
    obtain rfl : j = n := by omega
    have d0 : decide ((j : Int) < (j : Int)) = false := decide_eq_false (Int.lt_irrefl _)
    have d0' : decide (j < j) = false := decide_eq_false (Nat.lt_irrefl _)
    have hF : Hid (r = (js.take j).filter (zfa cnt ls js)) := by
     show r = _
     rw [hR.out, List.take_of_length_le (by rw [HJn.out]; exact Nat.le_refl _)]
    clear hlt
    go_wp2_with fail
    go_ret
    exact ⟨_, rfl, by rw [hF.out]; exact zbi O.out HB.out.size, zab HB.out HG.out⟩
theorem zxf (s : SlV) (u vb vj : Value) (l : List Nd) (ls : List Lk) (bal : List UInt64) (js : List Ck) (w : World) (h : SlE Ene w (sv s) l) (h1 : SlE Elk w u ls) (h2 : SlE Enum w vb bal) (h3 : SlE Ecc w vj js) (hn : l.length ≤ 1000) (hk : bal.length ≤ 1152921504606846976) (hmn : ls.length ≤ 1000) (hj : js.length ≤ 1000) :
  Calls Tryz.prog 113 #[.agg (tr ⟨s⟩), u, vb, vj] w (z87 (zb1 l ls bal js) w) := by
 have k := h1
 have k' := h3
 obtain ⟨p, cp, rfl, _⟩ := zal h1
 obtain ⟨q, cq, rfl, _⟩ := zal h3
 exact zr1 s p q _ cp _ cq vb l ls bal js w h k h2 k' rfl rfl hn hk hmn hj
end Go.Proofs.YtkalofboioffiaaGreat
