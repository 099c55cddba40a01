/-
  One chain, told by its last one alone; plainly; no word of the program.
  Package final: Chain, walked.
  Package final: all of it, as the laws want it.
  Who is guilty, plainly, by one walk over links that stand by rising targets' epochs: of those that one validator attested two clash just if two that come one after the other do; no word of the program.
-/
import Derived.Test.YtlhnjaeocoafnaaQ12
import Derived.Test.YtlhnjaeocoafnaaQ33
import Derived.Test.YtlhnjaeocoafnaaQ30
import Derived.Test.YtlhnjaeocoafnaaQ44
import Derived.Test.YtlhnjaeocoafnaaQ27
import Derived.Test.YtlhnjaeocoafnaaQ11
namespace Go.Proofs.Ytlhnjaeocoafnaa
set_option maxRecDepth 100000

section
variable {l : List Nd} {cs : List Ck}
theorem behind_line {a b c : Ck} (h : behindB l a b = true) (k : behindB l a c = true) : orB l b c = true := by
  obtain ⟨i, m, hm, e1, e2, hi, hk, ha⟩ := behind_parts h
  obtain ⟨i', m', _, f1, f2, hi', hk', ha'⟩ := behind_parts k
  have em : m' = m := by omega
  subst em
  unfold orB
  rw [Bool.or_eq_true]
  rcases above_chain hm m' hk ha ha' with x | x
  · exact .inr (behind_mk hm e1 f1 hi hi' x)
  · exact .inl (behind_mk hm f1 e1 hi' hi x)
/-- Of the first j L is the last one: all others are in front of it. -/
def chTop (l : List Nd) (cs : List Ck) (j : Nat) (L : Ck) : Prop := (∃ i, i < j ∧ ckAt cs i = L) ∧ (∀ i, i < j → ckAt cs i = L ∨ behindB l L (ckAt cs i) = true) ∧ ∀ i, i < j → ∀ k, k < i → orB l (ckAt cs i) (ckAt cs k) = true
theorem chTop_one : chTop l cs 1 (ckAt cs 0) := ⟨⟨0, Nat.one_pos, rfl⟩, fun i hi => .inl (by rw [show i = 0 by omega]), fun i hi k hk => by omega⟩
theorem chTop_pairs {j : Nat} {L : Ck} (h : chTop l cs j L) (hp : ∀ k, k < j → orB l (ckAt cs j) (ckAt cs k) = true) : ∀ i, i < j + 1 → ∀ k, k < i → orB l (ckAt cs i) (ckAt cs k) = true := fun i hi k hk => by
  rcases Nat.lt_succ_iff_lt_or_eq.1 hi with hi | rfl
  · exact h.2.2 i hi k hk
  · exact hp k hk
theorem chTop_up {j : Nat} {L : Ck} (h : chTop l cs j L) (hb : behindB l (ckAt cs j) L = true) : chTop l cs (j + 1) (ckAt cs j) := by
  have hd : ∀ i, i < j → behindB l (ckAt cs j) (ckAt cs i) = true := fun i hi => by
    rcases h.2.1 i hi with e | e
    · rw [e]; exact hb
    · exact behind_trans hb e
  refine ⟨⟨j, Nat.lt_succ_self j, rfl⟩, fun i hi => ?_, chTop_pairs h fun k hk => by unfold orB; rw [hd k hk]; rfl⟩
  rcases Nat.lt_succ_iff_lt_or_eq.1 hi with hi | rfl
  · exact .inr (hd i hi)
  · exact .inl rfl
theorem chTop_stay {j : Nat} {L : Ck} (h : chTop l cs j L) (hb : behindB l L (ckAt cs j) = true) : chTop l cs (j + 1) L := by
  obtain ⟨i0, hi0, e0⟩ := h.1
  refine ⟨⟨i0, by omega, e0⟩, fun i hi => ?_, chTop_pairs h fun k hk => ?_⟩
  · rcases Nat.lt_succ_iff_lt_or_eq.1 hi with hi | rfl
    · exact h.2.1 i hi
    · exact .inr hb
  · rcases h.2.1 k hk with e | e
    · rw [e]; unfold orB; rw [hb, Bool.or_true]
    · exact behind_line hb e
theorem chTop_no {j : Nat} {L : Ck} (h : chTop l cs j L) (hj : j < cs.length) (h1 : behindB l (ckAt cs j) L = false) (h2 : behindB l L (ckAt cs j) = false) : chainT l cs = false := by
  rw [← Bool.not_eq_true]
  intro hc
  obtain ⟨i0, hi0, e0⟩ := h.1
  have := (chainT_iff.1 hc).2 j hj i0 hi0
  rw [e0] at this
  unfold orB at this
  rw [h1, h2] at this
  cases this
theorem chTop_end {L : Ck} (hm : MayT l) (h : chTop l cs cs.length L) : chainT l cs = true := chainT_iff.2 ⟨hm, h.2.2⟩
theorem chain_none (hm : MayT l) : chainT l [] = true := chainT_iff.2 ⟨hm, fun i hi => by simp at hi⟩
theorem chain_no (hm : ¬ MayT l) : chainT l cs = false := by
  rw [← Bool.not_eq_true]
  exact fun h => hm (chainT_iff.1 h).1
theorem ckAt_drop {n i : Nat} : ckAt (cs.drop n) i = ckAt cs (n + i) := by
  unfold ckAt
  rw [List.getD_eq_getElem?_getD, List.getD_eq_getElem?_getD, List.getElem?_drop]
end
end Go.Proofs.Ytlhnjaeocoafnaa
namespace Go.Proofs.Ytlhnjaeocoafnaa
open Go.RowKit
set_option maxRecDepth 100000

/-- The tree in its variable, the last one in its own. -/
structure Chv (w W : World) (s : SlV) (R : Nat) (o : Ck) : Prop where
  t : W.heap[w.heap.size]? = some (.cells (tr ⟨s⟩) 24 (0, 0))
  o : W.heap[R]? = some (.cells (cc o) 32 (0, 0))
  g : Below w.heap.size w W
  R : w.heap.size < R
section
variable {w W W' : World} {s : SlV} {o : Ck} {R : Nat}
theorem Chv.keep (h : Chv w W s R o) (g : Below W.heap.size W W') : Chv w W' s R o := ⟨blk_keep g h.t, blk_keep g h.o, belowT h.g g, h.R⟩
theorem Chv.put (h : Chv w W s R o) (c : Ck) : Chv w (stA W (.pointer (some ⟨R, 0, none⟩)) (.agg (cc c))) s R c :=
  have := h.R
  ⟨(heap_stA (by omega)).trans h.t, heap_putC h.o, below_stA h.g (by omega), h.R⟩
end
set_option maxRecDepth 100000 in
set_option maxHeartbeats 8000000 in
theorem progChain_n (s : SlV) (p : Option Addr) (n cp : Nat) (l : List Nd) (cs : List Ck) (w : World) (h : SlE Ene w (sv s) l) (h3 : SlE Ecc w (.slice p n cp) cs) (hl : cs.length = n) (hj : n ≤ 1000) :
    Calls Try.prog 21 #[.agg (tr ⟨s⟩), .slice p n cp] w fun e w' => e = .returned (.bool (chainT l cs)) ∧ Below w.heap.size w w' := by
  have HBh := Lib.hid (fun c d W (g : Below w.heap.size w W) => isBehind16 s l c d W (slE_keep g h))
  have HMy := Lib.hid (fun W (g : Below w.heap.size w W) => treeMay s l W (slE_keep g h))
  obtain ⟨r, hr⟩ : ∃ r, r = chainT l cs := ⟨_, rfl⟩
  rw [← hr]
  have HR := Lib.hid hr
  have HL := Lib.hid hl
  have HN := Lib.hid hj
  have K := Lib.hid h3
  obtain ⟨W0, hW0⟩ : ∃ W0, W0 = w.alloc (.cells (tr ⟨s⟩) 24) := ⟨_, rfl⟩
  have HB : Hid (Below w.heap.size w W0) := by rw [hW0]; exact below1
  have T0 : Hid (W0.heap[w.heap.size]? = some (.cells (tr ⟨s⟩) 24 (0, 0))) := by rw [hW0]; exact heap_alloc_last w _
  have HW := Lib.hid hW0
  have z0 := (tr_cells T0.out).2.1
  by_cases hm : MayT l
  · rw [decide_eq_true hm] at HMy
    have HM := Lib.hid hm
    clear hW0 h h3 hr hl hj hm
    go_enter Try.func21, Try.ntmps21
    go_upto_region 1 with fail
    rw [← HW.out]
    go_wp2_with fail
    refine (HMy.out W0 HB.out).mono ?_
    rintro e w1 ⟨rfl, g⟩
    have G1 := Lib.hid (belowT HB.out g)
    replace T0 := Lib.hid (blk_keep g T0.out)
    clear g z0 HW HB
    by_cases h0 : n = 0
    · subst h0
      have hF : Hid (r = true) := by
        show r = true
        rw [HR.out, show cs = [] from List.length_eq_zero_iff.1 HL.out]
        exact chain_none HM.out
      go_wp2_with fail
      go_ret
      exact ⟨by rw [hF.out]; rfl, G1.out⟩
    · have t0 : ((n : Int) == 0) = false := beq_eq_false_iff_ne.2 (by omega)
      have t0' : (n == 0) = false := beq_eq_false_iff_ne.2 h0
      have i0 : (0 : Int) < (n : Int) := by omega
      have HN0 : Hid (0 < n) := by show 0 < n; omega
      obtain ⟨b1, o1, rfl, q1, x1⟩ := ccs_ptr K.out (by have := HL.out; omega)
      have X1 := Lib.hid x1
      have y1 := Go.Proofs.Ytlhnjaeocoafnaa.keep G1.out (ccs_ld x1 (i := 0) (by have := HL.out; omega))
      rw [Nat.zero_mul, Nat.add_zero] at y1
      have hcap : n ≤ cp := by obtain ⟨_, _, e, hh⟩ := slE_shape K.out; injection e with _ e2 e3; omega
      have HTop : Hid (chTop l cs 1 (ckAt cs 0)) := chTop_one
      obtain ⟨vr, hc1, hc2⟩ := cut_fromE (E := Ecc) (some ⟨b1, o1, none⟩) cp cs 1 (by rw [HL.out]; omega) (by rw [HL.out]; exact hcap)
      rw [HL.out] at hc1 hc2
      obtain ⟨pr, cr, rfl⟩ := slE_len (n := n - 1) (hc2 w K.out) (by rw [List.length_drop, HL.out])
      have HCu := Lib.hid (hc2 w K.out)
      have hc1' : cutFE 33 (.slice (some ⟨b1, o1, none⟩) n cp) (.int .i64 1) = some (.slice pr (n - 1) cr) := hc1
      clear hc1
      generalize ckAt cs 0 = C0 at *
      clear x1 q1 hcap hc2 h0 HMy
      go_upto_region 6 with fail
      obtain ⟨W2, hW2⟩ : ∃ W2, W2 = w1.alloc (.cells (cc C0) 32) := ⟨_, rfl⟩
      rw [← hW2]
      have hR1 : w.heap.size < w1.heap.size := (Array.getElem?_eq_some_iff.1 T0.out).1
      have D : Hid (Chv w W2 s w1.heap.size C0) := ⟨by rw [hW2]; exact blk_keep below1 T0.out, by rw [hW2]; exact heap_alloc_last w1 _, by rw [hW2]; exact belowT G1.out below1, hR1⟩
      generalize w1.heap.size = R at *
      clear hW2 y1 hR1 T0 G1
      go_wp2_with fail
      go_loopw [20] (fun i wr => ∃ (j : Nat) (o : Ck), j + 1 ≤ n ∧ i = .int .i64 (j : Int) ∧ chTop l cs (j + 1) o ∧ Chv w wr s R o) (fun i _ => n - (intOf i).toNat)
      case atStart => exact ⟨0, C0, HN0.out, rfl, HTop.out, D.out⟩
      case round =>
        obtain ⟨j, o, hj, rfl, hb, hD⟩ := hrel
        have HTp := Lib.hid hb
        replace D := Lib.hid hD
        clear hb hD
        by_cases hlt : j + 1 < n
        · have j0 : (0 : Int) ≤ (j : Int) := by omega
          have j1 : (j : Int) < ((n - 1 : Nat) : Int) := by omega
          have u1 : (j : Int) + 1 < 10000 := by have := HN.out; omega
          have d0 : decide ((j : Int) < ((n - 1 : Nat) : Int)) = true := decide_eq_true j1
          have d0' : decide (j < n - 1) = true := decide_eq_true (by omega)
          have HLT := Lib.hid hlt
          obtain ⟨b2, o2, rfl, _, x2⟩ := ccs_ptr (slE_keep D.out.g HCu.out) (by rw [List.length_drop, HL.out]; omega)
          have y2 := ccs_ld x2 (i := j) (by rw [List.length_drop, HL.out]; omega)
          rw [ckAt_drop, Nat.add_comm 1 j] at y2
          have HUp : Hid (behindB l (ckAt cs (j + 1)) o = true → chTop l cs (j + 1 + 1) (ckAt cs (j + 1))) := fun e => chTop_up HTp.out e
          have HSy : Hid (behindB l o (ckAt cs (j + 1)) = true → chTop l cs (j + 1 + 1) o) := fun e => chTop_stay HTp.out e
          have HNo : Hid (behindB l (ckAt cs (j + 1)) o = false → behindB l o (ckAt cs (j + 1)) = false → r = false) := fun e1 e2 => by rw [HR.out]; exact chTop_no HTp.out (by rw [HL.out]; exact hlt) e1 e2
          generalize ckAt cs (j + 1) = C at *
          have HB1 := Lib.hid (HBh.out C o)
          have HB2 := Lib.hid (HBh.out o C)
          generalize behindB l C o = a at *
          generalize behindB l o C = b at *
          clear x2 hlt hj
          go_upto_region 9 with fail
          obtain ⟨W5, hW5⟩ : ∃ W5, W5 = wr.alloc (.cells (cc C) 32) := ⟨_, rfl⟩
          rw [← hW5]
          have hz5 : W5.heap[wr.heap.size]? = some (.cells (cc C) 32 (0, 0)) := by rw [hW5]; exact heap_alloc_last wr _
          replace D := Lib.hid (D.out.keep (W' := W5) (by rw [hW5]; exact below1))
          have C5 := Lib.hid hz5
          obtain ⟨Q, hQ⟩ : ∃ Q, Q = wr.heap.size := ⟨_, rfl⟩
          rw [← hQ] at C5 hz5 ⊢
          clear hW5 y2 hQ
          have z0 := (tr_cells D.out.t).2.1
          have z1 := (ck_v D.out.o).a
          have z2 := (ck_v hz5).a
          clear hz5
          go_wp2_with fail
          refine (HB1.out _ D.out.g).mono ?_
          rintro e u ⟨rfl, g⟩
          replace D := Lib.hid (D.out.keep g)
          replace C5 := Lib.hid (blk_keep g C5.out)
          clear g z0 z1 z2
          have z0 := (tr_cells D.out.t).2.1
          have z1 := (ck_v D.out.o).a
          have z2 := (ck_v C5.out).a
          have z3 := wrA_block D.out.o (cc_size _)
          cases a
          · go_wp2_with fail
            refine (HB2.out _ D.out.g).mono ?_
            rintro e u2 ⟨rfl, g⟩
            replace D := Lib.hid (D.out.keep g)
            clear g z0 z1 z2 z3
            cases b
            · go_wp2_with fail
              go_ret
              exact ⟨by rw [show r = false from by have := HNo.out; simpa using this]; rfl, D.out.g⟩
            · go_wp2_with fail
              go_roundw
              case rel => exact ⟨j + 1, o, HLT.out, by go_num, (by have := HSy.out; simpa using this), D.out⟩
              case measure => simp [intOf]; have := HLT.out; omega
          · go_wp2_with fail
            go_roundw
            case rel => exact ⟨j + 1, C, HLT.out, by go_num, (by have := HUp.out; simpa using this), D.out.put C⟩
            case measure => simp [intOf]; have := HLT.out; omega
        · have HJ : Hid (j + 1 = n) := by show _ = _; omega
          have d0 : decide ((j : Int) < ((n - 1 : Nat) : Int)) = false := decide_eq_false (by omega)
          have d0' : decide (j < n - 1) = false := decide_eq_false (by omega)
          have hF : Hid (r = true) := by
            show r = true
            rw [HR.out]
            refine chTop_end (L := o) HM.out ?_
            rw [HL.out, ← HJ.out]
            exact HTp.out
          clear hlt hj
          go_wp2_with fail
          go_ret
          exact ⟨by rw [hF.out]; rfl, D.out.g⟩
  · rw [decide_eq_false hm] at HMy
    have hF : Hid (r = false) := by show r = false; rw [hr]; exact chain_no hm
    clear hW0 h h3 hr hl hj hm
    go_enter Try.func21, Try.ntmps21
    go_upto_region 1 with fail
    rw [← HW.out]
    go_wp2_with fail
    refine (HMy.out W0 HB.out).mono ?_
    rintro e w1 ⟨rfl, g⟩
    have G1 := Lib.hid (belowT HB.out g)
    clear g z0
    go_wp2_with fail
    go_ret
    exact ⟨by rw [hF.out]; rfl, G1.out⟩
theorem progChain (s : SlV) (v : Value) (l : List Nd) (cs : List Ck) (w : World) (h : SlE Ene w (sv s) l) (h3 : SlE Ecc w v cs) (hj : cs.length ≤ 1000) :
    Calls Try.prog 21 #[.agg (tr ⟨s⟩), v] w fun e w' => e = .returned (.bool (chainT l cs)) ∧ Below w.heap.size w w' := by
  have k := h3
  obtain ⟨p, cp, rfl, _⟩ := slE_shape h3
  exact progChain_n s p _ cp l cs w h k rfl hj
end Go.Proofs.Ytlhnjaeocoafnaa
namespace Go.Proofs.Ytlhnjaeocoafnaa
open Go.RowKit
set_option maxRecDepth 100000

theorem finalC : FinalC where
  more := fun s u vb vj l ls bal js w h h1 h2 h3 _ _ hj => (progMore s u vb vj l ls bal js w h h1 h2 h3 (by omega) (by omega)).mono fun _ _ ⟨v, e, ho, g⟩ => ⟨v, e, ownE_slE ho, g⟩
  finals := fun s u vb vj l ls bal js w h h1 h2 h3 _ _ hl hj => (progFinals s u vb vj l ls bal js w h h1 h2 h3 hl hj).mono fun _ _ ⟨v, e, ho, g⟩ => ⟨v, e, ownE_slE ho, g⟩
  next := fun s u vb vj l ls bal js fin w h h1 h2 h3 _ _ hl hj => progNext s u vb vj l ls bal js fin w h h1 h2 h3 hl hj
  best := fun s v l js fin w h h3 _ hj => progBest s v l js fin w h h3 hj
  chain := fun s v l cs w h h3 _ hj => progChain s v l cs w h h3 hj
end Go.Proofs.Ytlhnjaeocoafnaa
namespace Go.Proofs.Ytlhnjaeocoafnaa
set_option maxRecDepth 100000

/-- Two that do not clash, the first one's target's epoch no greater than the other one's. -/
theorem noclash {a b : Lk} (h : a.t.epoch.toNat ≤ b.t.epoch.toNat) : clashB a b = false ↔ (a.t.epoch.toNat = b.t.epoch.toNat → oneB a b = true) ∧ (a.t.epoch.toNat < b.t.epoch.toNat → a.s.epoch.toNat ≤ b.s.epoch.toNat) := by
  unfold clashB roundB
  have e1 : (a.t.epoch = b.t.epoch) ↔ a.t.epoch.toNat = b.t.epoch.toNat := UInt64.toNat_inj.symm
  rw [Bool.or_eq_false_iff, Bool.or_eq_false_iff, Bool.and_eq_false_iff, decide_eq_false_iff_not, decide_eq_false_iff_not, decide_eq_false_iff_not, e1, Bool.not_eq_false']
  constructor
  · rintro ⟨h1, _, h2⟩
    exact ⟨fun e => h1.resolve_right (fun q => q e), fun hl => by omega⟩
  · rintro ⟨h1, h2⟩
    refine ⟨?_, by omega, by omega⟩
    by_cases e : a.t.epoch.toNat = b.t.epoch.toNat
    · exact .inl (h1 e)
    · exact .inr e
theorem noclash_trans {a b c : Lk} (h1 : a.t.epoch.toNat ≤ b.t.epoch.toNat) (h2 : b.t.epoch.toNat ≤ c.t.epoch.toNat) (hab : clashB a b = false) (hbc : clashB b c = false) : clashB a c = false := by
  obtain ⟨p1, p2⟩ := (noclash h1).1 hab
  obtain ⟨q1, q2⟩ := (noclash h2).1 hbc
  have hse : ∀ {x y : Lk}, oneB x y = true → x.s.epoch.toNat = y.s.epoch.toNat := fun h => by rw [(oneB_iff.1 h).1]
  refine (noclash (by omega)).2 ⟨fun e => ?_, fun hl => ?_⟩
  · have e1 := oneB_iff.1 (p1 (by omega))
    have e2 := oneB_iff.1 (q1 (by omega))
    exact oneB_iff.2 ⟨e1.1.trans e2.1, e1.2.trans e2.2⟩
  · have ha : a.s.epoch.toNat ≤ b.s.epoch.toNat := by
      rcases Nat.lt_or_ge a.t.epoch.toNat b.t.epoch.toNat with h | h
      · exact p2 h
      · exact Nat.le_of_eq (hse (p1 (by omega)))
    have hb : b.s.epoch.toNat ≤ c.s.epoch.toNat := by
      rcases Nat.lt_or_ge b.t.epoch.toNat c.t.epoch.toNat with h | h
      · exact q2 h
      · exact Nat.le_of_eq (hse (q1 (by omega)))
    omega

/-- Rising targets' epochs. -/
def Rise (l : List Lk) : Prop := ∀ i k, i ≤ k → k < l.length → (lkAt l i).t.epoch.toNat ≤ (lkAt l k).t.epoch.toNat
def hasK (l : List Lk) (i v : Nat) : Bool := (lkAt l i).mask.toNat.testBit v
/-- Two of the first n that clash have it both. -/
def GuK (l : List Lk) (n v : Nat) : Prop := ∃ i k, i < k ∧ k < n ∧ clashB (lkAt l i) (lkAt l k) = true ∧ hasK l i v = true ∧ hasK l k v = true
/-- It is the last one of the first n that has it. -/
def LaK (l : List Lk) (n v a : Nat) : Prop := a < n ∧ hasK l a v = true ∧ ∀ k, a < k → k < n → hasK l k v = false
theorem guK_zero {l : List Lk} {v : Nat} : ¬ GuK l 0 v := fun ⟨_, _, _, h, _⟩ => by omega
theorem guK_no {l : List Lk} {n v : Nat} (h : hasK l n v = false) : GuK l (n + 1) v ↔ GuK l n v := by
  constructor
  · rintro ⟨i, k, h1, h2, h3, h4, h5⟩
    have : k ≠ n := fun e => by rw [e, h] at h5; cases h5
    exact ⟨i, k, h1, by omega, h3, h4, h5⟩
  · rintro ⟨i, k, h1, h2, h3⟩
    exact ⟨i, k, h1, by omega, h3⟩
theorem guK_mono {l : List Lk} {n v : Nat} (h : GuK l n v) : GuK l (n + 1) v := by
  obtain ⟨i, k, h1, h2, h3⟩ := h
  exact ⟨i, k, h1, by omega, h3⟩
/-- None of the first n has it: it isn't guilty by the next one. -/
theorem guK_first {l : List Lk} {n v : Nat} (h : ∀ k, k < n → hasK l k v = false) : ¬ GuK l (n + 1) v := by
  rintro ⟨i, k, h1, h2, _, h4, _⟩
  rw [h i (by omega)] at h4; cases h4
theorem guK_last {l : List Lk} {n v a : Nat} (hr : Rise l) (hn : n < l.length) (ha : LaK l n v a) (hg : ¬ GuK l n v) (hv : hasK l n v = true) : GuK l (n + 1) v ↔ clashB (lkAt l a) (lkAt l n) = true := by
  constructor
  · rintro ⟨i, k, h1, h2, h3, h4, h5⟩
    by_cases e : k = n
    · subst e
      by_cases ei : i = a
      · subst ei; exact h3
      · have hia : i < a := by
          rcases Nat.lt_or_ge a i with h | h
          · rw [ha.2.2 i h (by omega)] at h4; cases h4
          · omega
        have e1 : clashB (lkAt l i) (lkAt l a) = false := by
          cases e : clashB (lkAt l i) (lkAt l a)
          · rfl
          · exact absurd ⟨i, a, hia, ha.1, e, h4, ha.2.1⟩ hg
        have hak := ha.1
        cases e2 : clashB (lkAt l a) (lkAt l k)
        · have := noclash_trans (hr i a (by omega) (by omega)) (hr a k (by omega) hn) e1 e2
          rw [this] at h3; cases h3
        · rfl
    · exact absurd ⟨i, k, h1, by omega, h3, h4, h5⟩ hg
  · intro h
    exact ⟨a, n, ha.1, by omega, h, ha.2.1, hv⟩
theorem laK_self {l : List Lk} {n v : Nat} (h : hasK l n v = true) : LaK l (n + 1) v n := ⟨by omega, h, fun k h1 h2 => by omega⟩
theorem laK_no {l : List Lk} {n v a : Nat} (h : hasK l n v = false) (ha : LaK l n v a) : LaK l (n + 1) v a := ⟨by have := ha.1; omega, ha.2.1, fun k h1 h2 => by
  by_cases e : k = n
  · subst e; exact h
  · exact ha.2.2 k h1 (by omega)⟩
/-- All of them: as the document says it, in whatever order. -/
theorem guK_all {l ls : List Lk} (hp : ∀ x, x ∈ l ↔ x ∈ ls) (v : Nat) : GuK l l.length v ↔ (guiltT ls).toNat.testBit v = true := by
  rw [guilt_bit]
  constructor
  · rintro ⟨i, k, h1, h2, h3, h4, h5⟩
    exact ⟨_, _, (hp _).1 (lkAt_mem (show i < l.length by omega)), (hp _).1 (lkAt_mem h2), h3, h4, h5⟩
  · rintro ⟨a, b, ha, hb, hc, h1, h2⟩
    obtain ⟨i, hi, rfl⟩ := List.getElem_of_mem ((hp _).2 ha)
    obtain ⟨k, hk, rfl⟩ := List.getElem_of_mem ((hp _).2 hb)
    have ei := lkAt_in hi
    have ek := lkAt_in hk
    rcases Nat.lt_trichotomy i k with h | h | h
    · exact ⟨i, k, h, hk, by rw [ei, ek]; exact hc, by unfold hasK; rw [ei]; exact h1, by unfold hasK; rw [ek]; exact h2⟩
    · subst h; rw [clash_self] at hc; cases hc
    · exact ⟨k, i, h, hi, by rw [ei, ek, clash_comm]; exact hc, by unfold hasK; rw [ek]; exact h2, by unfold hasK; rw [ei]; exact h1⟩
end Go.Proofs.Ytlhnjaeocoafnaa
