/-
  The document's: are some on one chain? walked. (written by wip/gen/ref16.py)
  The document's: More, walked. (written by wip/gen/ref16.py)
-/
import Derived.Test.YtlhnjaeocoafnaaQ14
import Derived.Test.YtlhnjaeocoafnaaQ18
import Derived.Test.YtlhnjaeocoafnaaQ17
import Derived.Test.YtlhnjaeocoafnaaQ21
import Derived.Test.YtlhnjaeocoafnaaQ22
namespace Go.Proofs.Ytlhnjaeocoafnaa
open Go.RowKit
set_option maxRecDepth 100000

section
variable (l : List Nd) (cs : List Ck)
def chRow (i : Nat) : Nat → Bool
  | 0 => true
  | k + 1 => chRow i k && orB l (ckAt cs i) (ckAt cs k)
def chN : Nat → Bool
  | 0 => decide (MayT l)
  | i + 1 => chN i && chRow l cs i i
end
section
variable {l : List Nd} {cs : List Ck}
theorem chRow_iff {i : Nat} : ∀ k, chRow l cs i k = true ↔ ∀ x, x < k → orB l (ckAt cs i) (ckAt cs x) = true
  | 0 => ⟨fun _ x hx => absurd hx (Nat.not_lt_zero _), fun _ => rfl⟩
  | k + 1 => by
    show (chRow l cs i k && orB l (ckAt cs i) (ckAt cs k)) = true ↔ _
    rw [Bool.and_eq_true, chRow_iff k]
    constructor
    · rintro ⟨h1, h2⟩ x hx
      rcases Nat.lt_succ_iff_lt_or_eq.1 hx with h | rfl
      · exact h1 x h
      · exact h2
    · intro h
      exact ⟨fun x hx => h x (by omega), h k (by omega)⟩
theorem chN_iff : ∀ n, chN l cs n = true ↔ MayT l ∧ ∀ i, i < n → ∀ k, k < i → orB l (ckAt cs i) (ckAt cs k) = true
  | 0 => by
    show decide (MayT l) = true ↔ _
    rw [decide_eq_true_iff]
    exact ⟨fun h => ⟨h, fun i hi => absurd hi (Nat.not_lt_zero _)⟩, fun h => h.1⟩
  | n + 1 => by
    show (chN l cs n && chRow l cs n n) = true ↔ _
    rw [Bool.and_eq_true, chN_iff n, chRow_iff]
    constructor
    · rintro ⟨⟨h0, h1⟩, h2⟩
      refine ⟨h0, fun i hi => ?_⟩
      rcases Nat.lt_succ_iff_lt_or_eq.1 hi with h | rfl
      · exact h1 i h
      · exact h2
    · rintro ⟨h0, h1⟩
      exact ⟨⟨h0, fun i hi => h1 i (by omega)⟩, h1 n (by omega)⟩
theorem chN_all : chN l cs cs.length = chainT l cs := by rw [Bool.eq_iff_iff, chN_iff, chainT_iff]
theorem chN_no {j n : Nat} (h : chN l cs j = false) (hj : j ≤ n) : chN l cs n = false := by
  rw [← Bool.not_eq_true] at *
  intro e
  exact h ((chN_iff j).2 ⟨((chN_iff n).1 e).1, fun i hi => ((chN_iff n).1 e).2 i (by omega)⟩)
theorem chRow_no {i j n : Nat} (h : chRow l cs i j = false) (hj : j ≤ n) : chRow l cs i n = false := by
  rw [← Bool.not_eq_true] at *
  intro e
  exact h ((chRow_iff j).2 fun x hx => (chRow_iff n).1 e x (by omega))
end
set_option maxRecDepth 100000 in
set_option maxHeartbeats 8000000 in
theorem ref16Chain_n (s : SlV) (p : Option Addr) (n cp : Nat) (l : List Nd) (cs : List Ck) (w : World) (h : SlE Ene w (sv s) l) (h3 : SlE Ecc w (.slice p n cp) cs) (hl : cs.length = n) (hn : l.length ≤ 1000) (hj : n ≤ 1000) :
    Calls Try.prog 16 #[.agg (tr ⟨s⟩), .slice p n cp] w fun e w' => e = .returned (.bool (chainT l cs)) ∧ Below w.heap.size w w' := by
  have HBh := Lib.hid (fun c d W (g : Below w.heap.size w W) => ref16Behind s l c d W (slE_keep g h) hn)
  have HM := Lib.hid (fun W (g : Below w.heap.size w W) => refMayT s l W (slE_keep g h) hn)
  have HL := Lib.hid hl
  have HN := Lib.hid hj
  obtain ⟨r, hr⟩ : ∃ r, r = chainT l cs := ⟨_, rfl⟩
  rw [← hr]
  have HR : Hid (r = chN l cs n) := by show r = _; rw [hr, ← chN_all, hl]
  have HO : Hid (∀ a b, orB l a b = (behindB l a b || behindB l b a)) := fun a b => rfl
  have H0 : Hid (decide (MayT l) = chN l cs 0) := rfl
  rw [H0.out] at HM
  obtain ⟨W0, hW0⟩ : ∃ W0, W0 = w.alloc (.cells (tr ⟨s⟩) 24) := ⟨_, rfl⟩
  have HB : Hid (Below w.heap.size w W0) := by show Below _ _ _; rw [hW0]; exact below1
  have hz : W0.heap[w.heap.size]? = some (.cells (tr ⟨s⟩) 24 (0, 0)) := by rw [hW0]; exact heap_alloc_last w _
  have HW := Lib.hid hW0
  have HZ := Lib.hid hz
  have HS := Lib.hid (slE_keep HB.out h3)
  have z0 := (tr_cells hz).2.1
  clear hW0 h h3 hl hn hj hz hr H0
  go_enter Try.func16, Try.ntmps16
  go_upto_region 1 with fail
  rw [← HW.out]
  go_wp2_with fail
  refine (HM.out _ HB.out).mono ?_
  rintro e w3 ⟨rfl, g3⟩
  have G3 := Lib.hid g3
  clear g3 z0
  go_wp2_with fail
  go_loopw [5, 6] (fun b i wr => ∃ j : Nat, j ≤ n ∧ i = .int .i64 (j : Int) ∧ b = .bool (chN l cs j) ∧ Below W0.heap.size W0 wr) (fun _ i _ => n - (intOf i).toNat)
  case atStart => exact ⟨0, Nat.zero_le _, rfl, rfl, G3.out⟩
  case round =>
    obtain ⟨j, hj, rfl, rfl, hg⟩ := hrel
    obtain ⟨wo, rfl⟩ : ∃ wo : World, wo = wr := ⟨_, rfl⟩
    have HG := Lib.hid hg
    clear hg
    by_cases hlt : j < n
    · have i0 : (0 : Int) ≤ (j : Int) := by omega
      have i1 : (j : Int) < (n : Int) := by omega
      have u1 : (j : Int) + 1 < 10000 := by have := HN.out; omega
      have d0 : decide ((j : Int) < (n : Int)) = true := decide_eq_true i1
      have d0' : decide (j < n) = true := decide_eq_true hlt
      have HLT := Lib.hid hlt
      have HNo : Hid (chN l cs j = false → r = false) := fun e => by rw [HR.out]; exact chN_no e (by omega)
      have HSt : Hid (chN l cs (j + 1) = (chN l cs j && chRow l cs j j)) := rfl
      generalize chN l cs j = b at *
      cases b
      · have hF := Lib.hid (HNo.out rfl)
        go_wp2_with fail
        go_ret
        exact ⟨by rw [hF.out]; first | done | rfl, belowT HB.out HG.out⟩
      · clear hlt
        go_wp2_with fail
        go_loopw [5, 7] (fun b k wr => ∃ y : Nat, y ≤ j ∧ k = .int .i64 (y : Int) ∧ b = .bool (chRow l cs j y) ∧ Below wo.heap.size wo wr) (fun _ k _ => j - (intOf k).toNat)
        case atStart => exact ⟨0, Nat.zero_le _, rfl, rfl, Below.refl _ _⟩
        case round =>
          obtain ⟨y, hy, rfl, rfl, hi⟩ := hrel
          have HI := Lib.hid hi
          clear hi
          by_cases hyj : y < j
          · have d1 : decide ((y : Int) < (j : Int)) = true := decide_eq_true (by omega)
            have d1' : decide (y < j) = true := decide_eq_true hyj
            have q0 : (0 : Int) ≤ (y : Int) := by omega
            have q1 : (y : Int) < (n : Int) := by omega
            have q2 : (y : Int) + 1 < 10000 := by omega
            have HY := Lib.hid hyj
            have HNo2 : Hid (chRow l cs j y = false → chRow l cs j j = false) := fun e => chRow_no e (by omega)
            have HSt2 : Hid (chRow l cs j (y + 1) = (chRow l cs j y && orB l (ckAt cs j) (ckAt cs y))) := rfl
            generalize chRow l cs j y = b at *
            cases b
            · have hF := Lib.hid (HNo2.out rfl)
              clear hyj
              go_wp2_with fail
              go_roundw
              case rel => exact ⟨j + 1, HLT.out, by go_num, by rw [HSt.out, hF.out]; rfl, belowT HG.out HI.out⟩
              case measure => simp [intOf]; have := HLT.out; omega
            · obtain ⟨b1, o1, rfl, _, x1⟩ := ccs_ptr (slE_keep (belowT HG.out HI.out) HS.out) (by have := HL.out; omega)
              have X1 := Lib.hid x1
              have HLd : Hid (∀ W, Below wr.heap.size wr W → ldA W (.pointer (some ⟨b1, o1 + j * 33, none⟩)) 33 = some (cc (ckAt cs j)) ∧ ldA W (.pointer (some ⟨b1, o1 + y * 33, none⟩)) 33 = some (cc (ckAt cs y))) := fun W g => ⟨ccs_ld (keepR g X1.out) (by have := HL.out; have := HLT.out; omega), ccs_ld (keepR g X1.out) (by have := HL.out; have := HLT.out; have := HY.out; omega)⟩
              have HOj := Lib.hid (HO.out (ckAt cs j) (ckAt cs y))
              have HP := Lib.hid (HBh.out (ckAt cs j) (ckAt cs y))
              have HP2 := Lib.hid (HBh.out (ckAt cs y) (ckAt cs j))
              rw [HOj.out] at HSt2
              generalize behindB l (ckAt cs j) (ckAt cs y) = a1 at *
              generalize behindB l (ckAt cs y) (ckAt cs j) = a2 at *
              generalize ckAt cs j = C at *
              generalize ckAt cs y = D at *
              obtain ⟨y1, y2⟩ := HLd.out wr (Below.refl _ _)
              have z0 := (tr_cells (blk_keep (belowT HG.out HI.out) HZ.out)).2.1
              clear x1 hyj HOj
              go_wp2_with fail
              have L0 := fun p : Wd wr.drew => wd_ld y1 (by decide) p
              have L1 := fun p : Wd wr.drew => wd_ld y2 (by decide) p
              have L2 := fun p : Wd wr.drew => wd_ld z0 (by decide) p
              clear y1 y2 z0
              refine wp_region_lex [9] (by kernel_rfl) (by kernel_rfl) (by kernel_rfl) ?_
              repeat (first | (refine wpXL_quiet rfl rfl _ cls_begin ?_; (first | go_big_quiet_step (fail) | quiet_step (fail)); refine wpQuiet_nil ?_) | refine wpXL_skip rfl ?_)
              refine wpXL_call rfl rfl rfl enters_ref16Behind #[.agg (tr ⟨s⟩), .agg (cc C), .agg (cc D)] rfl ?_
              refine (HP.out _ (belowT HB.out (belowT HG.out (belowD HI.out 1)))).mono ?_
              rintro e u ⟨rfl, g⟩
              refine ⟨_, rfl, g, ?_⟩
              simp only [Act.put, List.setIfInBounds_toArray, List.set_cons_zero, List.set_cons_succ]
              have G1 : Hid (Below wr.heap.size wr u) := belowT (belowD (Below.refl _ _) 1) g
              clear g
              repeat (first | (refine wpXL_quiet rfl rfl _ cls_begin ?_; (first | go_big_quiet_step (fail) | quiet_step (fail)); refine wpQuiet_nil ?_) | refine wpXL_skip rfl ?_)
              refine wpXL_nil ?_
              clear L0 L1 L2
              obtain ⟨y1, y2⟩ := HLd.out u G1.out
              have z0 := (tr_cells (blk_keep (belowT HG.out (belowT HI.out G1.out)) HZ.out)).2.1
              go_wp2_with fail
              have L0 := fun p : Wd u.drew => wd_ld y1 (by decide) p
              have L1 := fun p : Wd u.drew => wd_ld y2 (by decide) p
              have L2 := fun p : Wd u.drew => wd_ld z0 (by decide) p
              clear y1 y2 z0
              refine wp_region_lex [9] (by kernel_rfl) (by kernel_rfl) (by kernel_rfl) ?_
              repeat (first | (refine wpXL_quiet rfl rfl _ cls_begin ?_; (first | go_big_quiet_step (fail) | quiet_step (fail)); refine wpQuiet_nil ?_) | refine wpXL_skip rfl ?_)
              refine wpXL_call rfl rfl rfl enters_ref16Behind #[.agg (tr ⟨s⟩), .agg (cc D), .agg (cc C)] rfl ?_
              refine (HP2.out _ (belowT HB.out (belowT HG.out (belowT HI.out (belowD G1.out 1))))).mono ?_
              rintro e u2 ⟨rfl, g⟩
              refine ⟨_, rfl, g, ?_⟩
              simp only [Act.put, List.setIfInBounds_toArray, List.set_cons_zero, List.set_cons_succ]
              have G2 : Hid (Below wr.heap.size wr u2) := belowT G1.out (belowT (belowD (Below.refl _ _) 1) g)
              clear g
              repeat (first | (refine wpXL_quiet rfl rfl _ cls_begin ?_; (first | go_big_quiet_step (fail) | quiet_step (fail)); refine wpQuiet_nil ?_) | refine wpXL_skip rfl ?_)
              refine wpXL_nil ?_
              clear L0 L1 L2
              cases a1 <;> cases a2 <;> (
                go_wp2_with fail
                go_roundw
                case rel => exact ⟨y + 1, HY.out, by go_num, by rw [HSt2.out]; rfl, belowT HI.out G2.out⟩
                case measure => simp [intOf]; have := HY.out; omega)
          · obtain rfl : y = j := by omega
            have d1 : decide ((y : Int) < (y : Int)) = false := decide_eq_false (Int.lt_irrefl _)
            have d1' : decide (y < y) = false := decide_eq_false (Nat.lt_irrefl _)
            clear hyj
            have hb : Hid (chN l cs (y + 1) = chRow l cs y y) := by show _ = _; rw [HSt.out]; exact Bool.true_and _
            generalize chRow l cs y y = b at *
            cases b <;> (
              go_wp2_with fail
              go_roundw
              case rel => exact ⟨y + 1, HLT.out, by go_num, by rw [hb.out], belowT HG.out HI.out⟩
              case measure => simp [intOf]; have := HLT.out; omega)
    · obtain rfl : j = n := by omega
      have d0 : decide ((j : Int) < (j : Int)) = false := decide_eq_false (Int.lt_irrefl _)
      have d0' : decide (j < j) = false := decide_eq_false (Nat.lt_irrefl _)
      clear hlt
      generalize chN l cs j = b at *
      cases b <;> (
        go_wp2_with fail
        go_ret
        exact ⟨by rw [HR.out]; first | done | rfl, belowT HB.out HG.out⟩)
theorem ref16Chain (s : SlV) (v : Value) (l : List Nd) (cs : List Ck) (w : World) (h : SlE Ene w (sv s) l) (h3 : SlE Ecc w v cs) (hn : l.length ≤ 1000) (hj : cs.length ≤ 1000) :
    Calls Try.prog 16 #[.agg (tr ⟨s⟩), v] w fun e w' => e = .returned (.bool (chainT l cs)) ∧ Below w.heap.size w w' := by
  have k := h3
  obtain ⟨p, cp, rfl, _⟩ := slE_shape h3
  exact ref16Chain_n s p _ cp l cs w h k rfl hn hj
theorem enters_ref16Chain : ∀ args w, (callFunc 16 args).run Try.prog w = .ok (.enter 16 args) w := entersE Try.func16 (by kernel_rfl) (by kernel_rfl)
end Go.Proofs.Ytlhnjaeocoafnaa
namespace Go.Proofs.Ytlhnjaeocoafnaa
open Go.RowKit
set_option maxRecDepth 100000

/-- How long a slice is. -/
def slN : Value → Nat
  | .slice _ n _ => n
  | _ => 0
theorem slN_own {w : World} {base : Nat} {v : Value} {l : List Ck} (h : OwnE Ecc w base v l) : slN v = l.length := by obtain ⟨p, c, rfl⟩ := ownE_shape h; rfl
set_option maxRecDepth 100000 in
set_option maxHeartbeats 8000000 in
theorem ref16More_n (s : SlV) (q : Option Addr) (m cq : Nat) (vb vj : Value) (l : List Nd) (ls : List Lk) (bal : List UInt64) (js : List Ck) (w : World) (h : SlE Ene w (sv s) l) (h1 : SlE Elk w (.slice q m cq) ls) (h2 : SlE Enum w vb bal) (h3 : SlE Ecc w vj js) (hm : ls.length = m) (hn : l.length ≤ 1000) (hk : bal.length ≤ 1152921504606846976) (hj : js.length + m ≤ 1000) :
    Calls Try.prog 13 #[.agg (tr ⟨s⟩), .slice q m cq, vb, vj] w (CksIs (moreL l ls bal js) w) := by
  have HT := Lib.hid (fun W (g : Below w.heap.size w W) => ref16Told s (.slice q m cq) vb l ls bal W (slE_keep g h) (slE_keep g h1) (slE_keep g h2) hn (by omega) hk)
  have HF := Lib.hid (fun ks v W (g : Below w.heap.size w W) (hv : SlE Ecc W v ks) (hl : ks.length ≤ 1000) => ref16First s q m cq vb v l ls bal ks W (slE_keep g h) (slE_keep g h1) (slE_keep g h2) hv hm hn (by omega) hk hl)
  have HNo : Hid (toldF l ls bal = false → moreL l ls bal js = js) := moreL_no
  have HYes : Hid (toldF l ls bal = true → moreL l ls bal js = moreT (cntB l bal) ls js) := moreL_yes
  generalize toldF l ls bal = t at *
  generalize moreL l ls bal js = r at *
  generalize cntB l bal = cnt at *
  have HL := Lib.hid hm
  have HJl := Lib.hid hj
  obtain ⟨W0, hW0⟩ : ∃ W0, W0 = w.alloc (.cells (tr ⟨s⟩) 24) := ⟨_, rfl⟩
  have HB : Hid (Below w.heap.size w W0) := by show Below _ _ _; rw [hW0]; exact below1
  have hz : W0.heap[w.heap.size]? = some (.cells (tr ⟨s⟩) 24 (0, 0)) := by rw [hW0]; exact heap_alloc_last w _
  have HW := Lib.hid hW0
  have HZ := Lib.hid hz
  have HS := Lib.hid (slE_keep HB.out h1)
  have HJ := Lib.hid (slE_keep HB.out h3)
  clear hW0 h h1 h2 h3 hm hn hk hj hz
  go_enter Try.func13, Try.ntmps13
  go_upto_region 1 with fail
  rw [← HW.out]
  go_wp2_with (at_builtin; refine wpList_append_E Kcc _ rfl (.const (.slice none 0 0)) (.tmp 12) rfl W0.heap.size _ [] rfl (ownE_nil _ _ _) _ js rfl HJ.out (by have := HJl.out; simp; omega) (Nat.le_refl _) ?_; intro v2 w2 ho2 hg2; rw [List.nil_append] at ho2; have O2 := Lib.hid ho2; have G2 := Lib.hid hg2.nil; clear ho2 hg2; have z0 := (tr_cells (blk_keep G2.out HZ.out)).2.1)
  refine (HT.out _ (belowT HB.out G2.out)).mono ?_
  rintro e w3 ⟨rfl, g3⟩
  replace O2 := Lib.hid (ownE_keep g3 O2.out)
  have G3 := Lib.hid (belowT G2.out g3)
  clear g3 z0 G2
  have z0 := (tr_cells (blk_keep G3.out HZ.out)).2.1
  cases t
  · have hR := Lib.hid (HNo.out rfl)
    go_wp2_with fail
    go_ret
    exact ⟨v2, rfl, by rw [hR.out]; exact ownE_base O2.out HB.out.size, belowT HB.out G3.out⟩
  · have hR := Lib.hid (HYes.out rfl)
    go_wp2_with fail
    refine (HF.out js v2 _ (belowT HB.out G3.out) (ownE_slE O2.out) (by have := HJl.out; omega)).mono ?_
    rintro e w4 ⟨⟨i4, rfl, hi4⟩, g4⟩
    replace O2 := Lib.hid (ownE_keep g4 O2.out)
    have G4 := Lib.hid (belowT G3.out g4)
    have I4 := Lib.hid hi4
    clear g4 z0 hi4
    go_wp2_with fail
    go_loopw [9, 11] (fun a i wr => ∃ (ks : List Ck) (z : Int), i = .int .i64 z ∧ OwnE Ecc wr W0.heap.size a ks ∧ moreT cnt ls ks = moreT cnt ls js ∧ ks.length + openN ls ks ≤ js.length + ls.length ∧ FirstAt cnt ls ks z ∧ Below W0.heap.size W0 wr) (fun a _ _ => js.length + ls.length + 1 - slN a)
    case atStart => exact ⟨js, i4, rfl, O2.out, rfl, Nat.add_le_add_left (open_le js) _, I4.out, G4.out⟩
    case round =>
      obtain ⟨ks, z, rfl, ho, hmo, hle, hat, hg⟩ := hrel
      have O := Lib.hid ho
      have HMo := Lib.hid hmo
      have HLe := Lib.hid hle
      have HG := Lib.hid hg
      clear ho hmo hle hg
      rcases hat with ⟨rfl, hno⟩ | ⟨j, hjl, rfl, hsome⟩
      · have hF : Hid (r = ks) := by show r = ks; rw [hR.out, ← HMo.out]; exact more_none hno _
        clear hno
        go_wp2_with fail
        go_ret
        exact ⟨_, rfl, by rw [hF.out]; exact ownE_base O.out HB.out.size, belowT HB.out HG.out⟩
      · have i0 : (0 : Int) ≤ (j : Int) := by omega
        have i1 : (j : Int) < (m : Int) := by have := HL.out; omega
        have d0 : decide ((0 : Int) ≤ (j : Int)) = true := decide_eq_true i0
        obtain ⟨b1, o1, rfl, _, x1⟩ := lks_ptr (slE_keep HG.out HS.out) (by omega)
        have y1 := lks_t x1 hjl
        have HOp := Lib.hid (open_less hsome)
        have HSt := Lib.hid (more_step hsome)
        have HZb : Hid (W0.heap.size ≤ wr.heap.size) := HG.out.size
        have HSl := Lib.hid (slN_own O.out)
        generalize (lkAt ls j).t = x at *
        clear hjl hsome x1
        go_wp2_with (at_builtin; refine wpList_append_E Kcc _ rfl (.tmp 28) (.tmp 34) rfl W0.heap.size _ ks rfl (ownE_alloc O.out _) _ [x] rfl (cc_lit1 _ _ _ rfl) (by have := HLe.out; have := HJl.out; have := HL.out; simp; omega) (by have := HZb.out; simp; omega) ?_; intro v5 w5 ho5 hg5; have O5 := Lib.hid ho5; have G5 : Hid (Below W0.heap.size W0 w5) := HG.out.trans ((Gr.alloc hg5).own O.out HZb.out); clear ho5 hg5; have z0 := (tr_cells (blk_keep G5.out HZ.out)).2.1)
        refine (HF.out _ v5 _ (belowT HB.out G5.out) (ownE_slE O5.out) (by have := HLe.out; have := HJl.out; have := HL.out; have := HOp.out; simp; omega)).mono ?_
        rintro e w6 ⟨⟨i6, rfl, hi6⟩, g6⟩
        replace O5 := Lib.hid (ownE_keep g6 O5.out)
        have G6 := Lib.hid (belowT G5.out g6)
        have I6 := Lib.hid hi6
        clear g6 z0 hi6 G5
        go_wp2_with fail
        go_roundw
        case rel => exact ⟨_, i6, rfl, O5.out, HSt.out.symm.trans HMo.out, by have := HOp.out; have := HLe.out; rw [List.length_append, List.length_singleton]; omega, I6.out, G6.out⟩
        case measure =>
          have e1 := slN_own O5.out
          have e2 := HSl.out
          have := HOp.out; have := HLe.out
          rw [e1, e2, List.length_append, List.length_singleton]
          omega
theorem ref16More (s : SlV) (u vb vj : Value) (l : List Nd) (ls : List Lk) (bal : List UInt64) (js : List Ck) (w : World) (h : SlE Ene w (sv s) l) (h1 : SlE Elk w u ls) (h2 : SlE Enum w vb bal) (h3 : SlE Ecc w vj js) (hn : l.length ≤ 1000) (hk : bal.length ≤ 1152921504606846976) (hj : js.length + ls.length ≤ 1000) :
    Calls Try.prog 13 #[.agg (tr ⟨s⟩), u, vb, vj] w (CksIs (moreL l ls bal js) w) := by
  have k := h1
  obtain ⟨p, cp, rfl, _⟩ := slE_shape h1
  exact ref16More_n s p _ cp vb vj l ls bal js w h k h2 h3 rfl hn hk hj
theorem enters_ref16More : ∀ args w, (callFunc 13 args).run Try.prog w = .ok (.enter 13 args) w := entersE Try.func13 (by kernel_rfl) (by kernel_rfl)
end Go.Proofs.Ytlhnjaeocoafnaa
