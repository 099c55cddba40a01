/-
  The document's best way down: Line, Head, walked.
-/
import Derived.Test.YtjmpgphoiehdmaaR09Kid
import Derived.Test.YtjmpgphoiehdmaaGI
namespace Go.Proofs.Ytjmpgphoiehdmaa
open Go.RowKit

/-- Where the way down stands: what is told so far, and the place that is next. -/
def WayAt (l : List Nd) (a : List UInt64) (b : List Bool) (i : Nat) (pre : List Int) (c : Int) : Prop :=
  (c = -1 ∧ pre = (wayN l a b i).map (fun k : Nat => (k : Int))) ∨ ∃ k : Nat, c = k ∧ k < l.length ∧ (wayN l a b i).map (fun k : Nat => (k : Int)) = pre ++ (wayN l a b k).map (fun k : Nat => (k : Int))
theorem wayAt_step {l : List Nd} {a : List UInt64} {b : List Bool} (hm : MayT l) {i k : Nat} {pre : List Int} (e : (wayN l a b i).map (fun k : Nat => (k : Int)) = pre ++ (wayN l a b k).map (fun k : Nat => (k : Int))) : WayAt l a b i (pre ++ [(k : Int)]) (optZ (bestN l a b k)) := by
  cases hb : bestN l a b k with
  | none =>
    refine .inl ⟨rfl, ?_⟩
    have h1 : wayN l a b k = [k] := way_none hb
    rw [e, h1]; rfl
  | some c =>
    refine .inr ⟨c, rfl, best_bd hb, ?_⟩
    have h1 : wayN l a b k = k :: wayN l a b c := way_some ltS hm hb
    rw [e, h1, List.map_cons, List.append_assoc]; rfl

def wayM (n : Nat) (x : Int) : Nat := if x < 0 then 0 else n + 1 - x.toNat
theorem wayM_lt {n k : Nat} {c : Int} (h : c < 0 ∨ (k : Int) < c) (hk : k < n) : wayM n c < wayM n (k : Int) := by
  unfold wayM
  rw [if_neg (show ¬ (k : Int) < 0 by omega)]
  by_cases hc : c < 0
  · rw [if_pos hc]; omega
  · rw [if_neg hc]; omega
set_option maxRecDepth 100000 in
set_option maxHeartbeats 8000000 in
theorem ref09Line_n (p q1 q2 : Option Addr) (n cp m1 c1 m2 c2 : Nat) (l : List Nd) (a : List UInt64) (b : List Bool) (i : Int) (w : World) (h : SlE Ene w (.slice p n cp) l) (h1 : SlE Enum w (.slice q1 m1 c1) a) (h2 : SlE Eboo w (.slice q2 m2 c2) b) (hl : l.length = n) (ha : a.length = m1) (hb : b.length = m2) (hn : n ≤ 1000) :
    Calls Try.prog 11 #[.agg (tr ⟨⟨p, n, cp⟩⟩), .slice q1 m1 c1, .slice q2 m2 c2, .int .i64 i] w (IntsIs (wayZ l a b i) w) := by
  have HT := Lib.hid (fun W (g : Below w.heap.size w W) => ref09Told_n p q1 q2 n cp m1 c1 m2 c2 l a b W (slE_keep g h) hl ha hb hn)
  have HK := Lib.hid (fun W (g : Below w.heap.size w W) (i : Int) => ref09Kid ⟨p, n, cp⟩ _ _ l a b i W (slE_keep g h) (slE_keep g h1) (slE_keep g h2) (by omega))
  obtain ⟨r, hr⟩ : ∃ r, r = toldB l a b := ⟨_, rfl⟩
  rw [← hr] at HT
  have HR := Lib.hid hr
  obtain ⟨W0, hW0⟩ : ∃ W0, W0 = w.alloc (.cells (tr ⟨⟨p, n, cp⟩⟩) 24) := ⟨_, rfl⟩
  have HB : Hid (Below w.heap.size w W0) := by rw [hW0]; exact below1
  have M0 : Hid (W0.heap[w.heap.size]? = some (.cells (tr ⟨⟨p, n, cp⟩⟩) 24 (0, 0))) := by rw [hW0]; exact heap_alloc_last w _
  have HW := Lib.hid hW0
  have HL := Lib.hid hl
  clear hW0 h h1 h2 hl ha hb hn hr
  go_enter Try.func11, Try.ntmps11
  go_wp2_with fail
  rw [← HW.out]
  refine (HT.out W0 HB.out).mono ?_
  rintro e w1 ⟨rfl, g1⟩
  have G1 := Lib.hid (belowT HB.out g1)
  have M1 := Lib.hid (blk_keep g1 M0.out)
  obtain ⟨z0, z1, zl⟩ := tr_cells M1.out
  dsimp only at z0
  rw [sv_mk] at z0
  clear g1
  by_cases hi : (n : Int) ≤ i
  · have t0 : decide ((n : Int) ≤ i) = true := decide_eq_true hi
    have hX : Hid (wayZ l a b i = []) := wayZ_not (by rw [← Bool.not_eq_true, place_iff]; rintro ⟨_, _, y⟩; have := HL.out; omega)
    clear hi
    go_wp2_with fail
    go_ret
    exact ⟨_, rfl, by rw [hX.out]; exact ownE_nil _ _ _, G1.out⟩
  have t0 : decide ((n : Int) ≤ i) = false := decide_eq_false hi
  by_cases hk : r = true ∧ 0 ≤ i
  case neg =>
    have hX : Hid (wayZ l a b i = []) := wayZ_not (by rw [← Bool.not_eq_true, place_iff, ← HR.out]; rintro ⟨x, y, _⟩; exact hk ⟨x, y⟩)
    have HKn : Hid (r = true → decide (0 ≤ i) = false) := fun e => decide_eq_false (fun h => hk ⟨e, h⟩)
    clear hi hk
    go_wp2_with fail
    go_loopw [3, 9] (fun c v wr => c = .int .i64 i ∧ v = .slice none 0 0 ∧ wr = w1) (fun _ _ _ => 1)
    case atStart => exact ⟨rfl, rfl, rfl⟩
    case round =>
      obtain ⟨rfl, rfl, rfl⟩ := hrel
      cases r
      · go_wp2_with fail
        go_ret
        exact ⟨_, rfl, by rw [hX.out]; exact ownE_nil _ _ _, G1.out⟩
      · have t1 := HKn.out (by simp)
        go_wp2_with fail
        go_ret
        exact ⟨_, rfl, by rw [hX.out]; exact ownE_nil _ _ _, G1.out⟩
  obtain ⟨rfl, hi0⟩ := hk
  obtain ⟨i, rfl⟩ : ∃ i' : Nat, i = i' := ⟨i.toNat, by omega⟩
  have ht : toldB l a b = true := HR.out.symm
  have hm := (told_iff.1 ht).1
  have HM := Lib.hid hm
  have HTd := Lib.hid ht
  have HI : Hid (i < n) := by show i < n; omega
  have t0n : decide (n ≤ i) = false := decide_eq_false (by omega)
  have HN : Hid (n ≤ 12) := by show n ≤ 12; have := hm.le; have := HL.out; omega
  have hX : Hid (wayZ l a b (i : Int) = (wayN l a b i).map (fun k : Nat => (k : Int))) := wayZ_nat ht (by have := HL.out; omega)
  have HWl : Hid ((wayN l a b i).length ≤ l.length) := (law_way hm (i := i) (by have := HL.out; omega)).2.2.2.2.1
  clear hi hi0 ht hm
  go_wp2_with fail
  go_loopw [3, 9] (fun c v wr => ∃ (x : Int) (pre : List Int), c = .int .i64 x ∧ WayAt l a b i pre x ∧ OwnE Eint wr w1.heap.size v pre ∧ Below w1.heap.size w1 wr) (fun c _ _ => wayM n (intOf c))
  case atStart => exact ⟨(i : Int), [], rfl, .inr ⟨i, rfl, by have := HI.out; have := HL.out; omega, rfl⟩, ownE_nil _ _ _, Below.refl _ _⟩
  case round =>
    obtain ⟨x, pre, rfl, hat, hown, hb⟩ := hrel
    have HAT := Lib.hid hat
    have HO := Lib.hid hown
    have HBB := Lib.hid hb
    clear hat hown hb
    rcases HAT.out with ⟨rfl, hpre⟩ | ⟨k, rfl, hkl, hpre⟩
    · have HP := Lib.hid hpre
      clear hpre z0 z1 zl HAT
      go_wp2_with fail
      go_ret
      exact ⟨_, rfl, by rw [hX.out, ← HP.out]; exact ownE_base HO.out G1.out.size, belowT G1.out HBB.out⟩
    · have k0 : decide ((0 : Int) ≤ (k : Int)) = true := decide_eq_true (by omega)
      have HST := Lib.hid (wayAt_step HM.out hpre)
      have HPl : Hid (pre.length ≤ 12) := by
        show pre.length ≤ 12
        have e1 := congrArg List.length hpre
        rw [List.length_map, List.length_append] at e1
        have := HWl.out; have := HL.out; have := HN.out
        omega
      have HLT : Hid (∀ c, optZ (bestN l a b k) = (c : Int) → (c : Int) < 0 ∨ (k : Int) < c) := fun c hc => by
        cases hq : bestN l a b k with
        | none => rw [hq, optZ_none] at hc; exact .inl (by omega)
        | some m =>
          rw [hq, optZ_some] at hc
          have := (best_lt ltS HM.out hq).1
          exact .inr (by omega)
      have HKn : Hid (k < n) := by show k < n; have := HL.out; omega
      have HC := Lib.hid (fun W g => HK.out W g (k : Int))
      rw [kidZ_nat HTd.out hkl] at HC
      obtain ⟨c, hc⟩ : ∃ c, c = optZ (bestN l a b k) := ⟨_, rfl⟩
      rw [← hc] at HC HST HLT
      clear hc hkl hpre HAT z0 z1 zl
      obtain ⟨pv, cv, rfl⟩ := ownE_shape HO.out
      go_wp2_with (at_builtin; refine wpList_append_E Kint _ rfl (.tmp 25) (.tmp 27) rfl w1.heap.size _ pre rfl (ownE_alloc HO.out _) _ [(k : Int)] rfl (slE_lit _ [(k : Int)] 1 _ _ _ rfl (by simp) rfl) (by have := HPl.out; simp; omega) (by have := HBB.out.size; simp; omega) ?_; intro v2 w2 ho2 hg2; have G2 := Lib.hid (hg2.own (ownE_alloc HO.out _) (by have := HBB.out.size; simp; omega)); have zz := (tr_cells (blk_keep (HBB.out.trans ((below1.mono HBB.out.size).trans G2.out)) M1.out)).2.1)
      refine (HC.out w2 (belowT G1.out (HBB.out.trans ((below1.mono HBB.out.size).trans G2.out)))).mono ?_
      rintro e w3 ⟨rfl, g3⟩
      have HB3 := Lib.hid (belowT (HBB.out.trans ((below1.mono HBB.out.size).trans G2.out)) g3)
      have HO3 := Lib.hid (ownE_keep g3 ho2)
      clear g3 zz ho2 hg2
      go_wp2_with fail
      go_roundw
      case rel => exact ⟨c, pre ++ [(k : Int)], rfl, HST.out, HO3.out, HB3.out⟩
      case measure =>
        have h1 := HLT.out c rfl
        have h2 := HKn.out
        exact wayM_lt h1 h2
theorem ref09Line (s : SlV) (v u : Value) (l : List Nd) (a : List UInt64) (b : List Bool) (i : Int) (w : World) (h : SlE Ene w (sv s) l) (h1 : SlE Enum w v a) (h2 : SlE Eboo w u b) (hn : l.length ≤ 1000) :
    Calls Try.prog 11 #[.agg (tr ⟨s⟩), v, u, .int .i64 i] w (IntsIs (wayZ l a b i) w) := by
  have hl := sv_lenN h
  obtain ⟨p, n, cp⟩ := s
  dsimp only at hl
  have k1 := h1
  have k2 := h2
  obtain ⟨q1, c1, rfl, _⟩ := slE_shape h1
  obtain ⟨q2, c2, rfl, _⟩ := slE_shape h2
  exact ref09Line_n p q1 q2 n cp _ c1 _ c2 l a b i w h k1 k2 hl rfl rfl (by omega)
theorem enters_ref09Line : ∀ args w, (callFunc 11 args).run Try.prog w = .ok (.enter 11 args) w := entersE Try.func11 (by kernel_rfl) (by kernel_rfl)
end Go.Proofs.Ytjmpgphoiehdmaa
