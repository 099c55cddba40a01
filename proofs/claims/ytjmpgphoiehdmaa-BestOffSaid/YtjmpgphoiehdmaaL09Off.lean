/-
  The law BestOff, walked. (written by wip/gen/law09.py)
-/
import Derived.Test.YtjmpgphoiehdmaaW09
import Derived.Test.YtjmpgphoiehdmaaTw
import Derived.Test.YtjmpgphoiehdmaaBestO
namespace Go.Proofs.Ytjmpgphoiehdmaa
open Go.RowKit

set_option maxRecDepth 100000 in
set_option maxHeartbeats 8000000 in
theorem bestOff_n (HKi : KidC) (HHe : HeadC) (HLi : LineC) (HAl : AllC) (p : Option Addr) (n cp : Nat) (l : List Nd) (q1 : Option Addr) (m1 c1 : Nat) (a : List UInt64) (q2 : Option Addr) (m2 c2 : Nat) (b : List Bool) (i : Int) (w : World) (h : SlE Ene w (.slice p n cp) l) (hl : l.length = n) (h1 : SlE Enum w (.slice q1 m1 c1) a) (e1 : a.length = m1) (h2 : SlE Eboo w (.slice q2 m2 c2) b) (e2 : b.length = m2) :
    Calls Try.prog 7 #[.agg (tr ⟨⟨p, n, cp⟩⟩), .slice q1 m1 c1, .slice q2 m2 c2, .int .i64 i] w fun e w' => e = .returned (.bool true) ∧ Below w.heap.size w w' := by
  have V : Hid (Tw w (w.alloc (.cells (tr ⟨⟨p, n, cp⟩⟩) 24)) w.heap.size ⟨p, n, cp⟩ l) := tw_one h
  obtain ⟨W0, hW0⟩ : ∃ W0, W0 = w.alloc (.cells (tr ⟨⟨p, n, cp⟩⟩) 24) := ⟨_, rfl⟩
  have hB : Below w.heap.size w W0 := by rw [hW0]; exact below1
  rw [← hW0] at V
  have A := V
  have HW := Lib.hid hW0
  have HL := Lib.hid hl
  have B1 : Hid (SlE Enum W0 (.slice q1 m1 c1) a) := slE_keep hB h1
  have E1 := Lib.hid e1
  have B2 : Hid (SlE Eboo W0 (.slice q2 m2 c2) b) := slE_keep hB h2
  have E2 := Lib.hid e2
  have HAw := Lib.hid (fun W => awake_any9 HKi HHe HLi HAl W)
  have HKi := Lib.hid HKi
  have HHe := Lib.hid HHe
  have HLi := Lib.hid HLi
  have HAl := Lib.hid HAl
  clear V hW0 hB h hl h1 e1 h2 e2
  go_enter Try.func7, Try.ntmps7
  go_wp2_with fail
  rw [← HW.out]
  refine (HAw.out _).mono ?_
  rintro e w1 ⟨rfl, g⟩
  replace A := Lib.hid (A.out.keep g)
  replace B1 := Lib.hid (slE_keep g B1.out)
  replace B2 := Lib.hid (slE_keep g B2.out)
  clear g
  have z1 := A.out.z1
  have z0 := A.out.z0
  rw [sv_mk] at z0
  have HH1 := Lib.hid (fun W (g : SlE Ene W (.slice p n cp) l) (g1 : SlE Enum W (.slice q1 m1 c1) a) (g2 : SlE Eboo W (.slice q2 m2 c2) b) => HHe.out ⟨p, n, cp⟩ _ _ l a b i W g g1 g2)
  by_cases h20 : 20 < n
  · have d0 : decide ((20 : Int) < (n : Int)) = true := decide_eq_true (by omega)
    have d0' : decide (20 < n) = true := decide_eq_true h20
    have d1 : decide ((-1 : Int) ≤ headZ l a b i) = true := decide_eq_true (headZ_ge i)
    generalize headZ l a b i = rh at *
    clear h20
    go_wp2_with fail
    refine (HH1.out _ A.out.s B1.out B2.out).mono ?_
    rintro e w2 ⟨rfl, g⟩
    replace A := Lib.hid (A.out.keep g)
    replace B1 := Lib.hid (slE_keep g B1.out)
    replace B2 := Lib.hid (slE_keep g B2.out)
    clear g
    replace z1 := A.out.z1
    replace z0 := A.out.z0
    rw [sv_mk] at z0
    go_wp2_with fail
    go_ret
    exact ⟨rfl, A.out.g⟩
  have d0 : decide ((20 : Int) < (n : Int)) = false := decide_eq_false (by omega)
  have d0' : decide (20 < n) = false := decide_eq_false h20
  by_cases hp : placeB l a b i = true
  case neg =>
    have hp' : placeB l a b i = false := by simpa using hp
    rw [headZ_not hp'] at HH1
    clear hp hp' h20
    go_wp2_with fail
    refine (HH1.out _ A.out.s B1.out B2.out).mono ?_
    rintro e w2 ⟨rfl, g⟩
    replace A := Lib.hid (A.out.keep g)
    replace B1 := Lib.hid (slE_keep g B1.out)
    replace B2 := Lib.hid (slE_keep g B2.out)
    clear g
    replace z1 := A.out.z1
    replace z0 := A.out.z0
    rw [sv_mk] at z0
    go_wp2_with fail
    go_ret
    exact ⟨rfl, A.out.g⟩
  obtain ⟨ht, hp0, hp1⟩ := place_iff.1 hp
  obtain ⟨i, rfl⟩ : ∃ i' : Nat, i = i' := ⟨i.toNat, by omega⟩
  have hi : i < l.length := by omega
  obtain ⟨hH, k1, k2, k3⟩ := law_offN ht hi
  obtain ⟨hm, ha, hb⟩ := told_iff.1 ht
  rw [headZ_nat ht hi] at HH1
  have Hn : Hid (b.length = n ∧ n ≤ 20) := ⟨by rw [hb, HL.out], by omega⟩
  have hHn : headN l a b i < n := by have := HL.out; omega
  obtain rfl : n = m2 := by have := Hn.out.1; have := E2.out; omega
  have HH2 := Lib.hid (fun (v : Value) W (g : SlE Ene W (.slice p n cp) l) (g1 : SlE Enum W (.slice q1 m1 c1) a) (g2 : SlE Eboo W v (b.set (headN l a b i) false)) => HHe.out ⟨p, n, cp⟩ _ _ l a _ (i : Int) W g g1 g2)
  have HH3 := Lib.hid (fun (v : Value) W (g : SlE Ene W (.slice p n cp) l) (g1 : SlE Enum W (.slice q1 m1 c1) a) (g2 : SlE Eboo W v (b.set (headN l a b i) false)) => HHe.out ⟨p, n, cp⟩ _ _ l a _ (headN l a b i : Int) W g g1 g2)
  rw [k1] at HH2
  rw [k2] at HH3
  generalize headN l a (b.set (headN l a b i) false) i = K at *
  generalize headN l a b i = H at *
  have h0 : decide ((H : Int) < 0) = false := decide_eq_false (by omega)
  have h1 : decide ((n : Int) ≤ (H : Int)) = false := decide_eq_false (by omega)
  have h1' : decide (n ≤ H) = false := decide_eq_false (by omega)
  have h2 : (0 : Int) ≤ (H : Int) := by omega
  have h3 : (H : Int) < (n : Int) := by omega
  have h4 : decide ((0 : Int) ≤ (K : Int)) = true := decide_eq_true (by omega)
  have e1 : ((H : Int) == (H : Int)) = true := by simp
  have HK := Lib.hid k3
  have HHn := Lib.hid hHn
  clear hp ht hp0 hp1 hi hm ha hb h20 hH k1 k2 k3 hHn
  go_wp2_with fail
  refine (HH1.out _ A.out.s B1.out B2.out).mono ?_
  rintro e w2 ⟨rfl, g⟩
  replace A := Lib.hid (A.out.keep g)
  replace B1 := Lib.hid (slE_keep g B1.out)
  replace B2 := Lib.hid (slE_keep g B2.out)
  clear g
  replace z1 := A.out.z1
  replace z0 := A.out.z0
  rw [sv_mk] at z0
  go_wp2_with (at_builtin; refine wpList_append_E Kboo _ rfl (.const (.slice none 0 0)) (.tmp 42) rfl w2.heap.size _ [] rfl (ownE_nil _ _ _) _ b rfl B2.out (by have := Hn.out; simp; omega) (Nat.le_refl _) ?_; intro v4 w4 ho4 hg4; rw [List.nil_append] at ho4; obtain ⟨g4, c4, rfl, hge⟩ := own_form ho4 Hn.out.1 (by have := HHn.out; omega); have Y4 := Lib.hid ho4; have yc := own_cell ho4 (k := H) (by have := HHn.out; have := Hn.out; omega); have yf := own_frozen ho4 Hn.out.1 H; have G4 : Hid (Below w2.heap.size w2 w4) := hg4.nil; have HGE := Lib.hid hge; have G5 : Hid (Below w2.heap.size w2 (w4.setCell ⟨g4, H, none⟩ (.bool false))) := G4.out.setCell hge _; have Z5 := (A.out.keep G5.out).z1; clear ho4 hg4 hge)
  have Y5 := Lib.hid (own_put Y4.out Hn.out.1 H false)
  obtain ⟨w5, hw5⟩ : ∃ w5, w5 = w4.setCell ⟨g4, H, none⟩ (.bool false) := ⟨_, rfl⟩
  rw [← hw5] at G5 Z5 Y5
  rw [← hw5]
  replace A := Lib.hid (A.out.keep G5.out)
  replace B1 := Lib.hid (slE_keep G5.out B1.out)
  have B5 := Lib.hid (ownE_slE Y5.out)
  clear B2 Y4 Y5 G4 G5 yc yf hw5 Z5 z0 z1
  have z1 := A.out.z1
  have z0 := A.out.z0
  rw [sv_mk] at z0
  refine (HH2.out _ _ A.out.s B1.out B5.out).mono ?_
  rintro e w3 ⟨rfl, g⟩
  replace A := Lib.hid (A.out.keep g)
  replace B1 := Lib.hid (slE_keep g B1.out)
  replace B5 := Lib.hid (slE_keep g B5.out)
  clear g
  replace z1 := A.out.z1
  replace z0 := A.out.z0
  rw [sv_mk] at z0
  have b0 : (((K : Int) != (H : Int)) == ((H : Int) != (i : Int))) = true := by
    have := HK.out
    by_cases e : H = i
    · have e' : K = H := Classical.byContradiction fun h => (this.1 h) e
      subst e; subst e'; simp
    · have e' := this.2 e
      have x1 : ((K : Int) != (H : Int)) = true := by rw [bne_iff_ne]; omega
      have x2 : ((H : Int) != (i : Int)) = true := by rw [bne_iff_ne]; omega
      rw [x1, x2]; rfl
  go_wp2_with fail
  refine (HH3.out _ _ A.out.s B1.out B5.out).mono ?_
  rintro e w4 ⟨rfl, g⟩
  replace A := Lib.hid (A.out.keep g)
  replace B1 := Lib.hid (slE_keep g B1.out)
  replace B5 := Lib.hid (slE_keep g B5.out)
  clear g
  replace z1 := A.out.z1
  replace z0 := A.out.z0
  rw [sv_mk] at z0
  go_wp2_with fail
  go_ret
  exact ⟨rfl, A.out.g⟩
/-- The law. -/
theorem bestOffL (HKi : KidC) (HHe : HeadC) (HLi : LineC) (HAl : AllC) (s : Tr) (l : List Nd) (v1 : Value) (a : List UInt64) (v2 : Value) (b : List Bool) (i : Int) (w : World) (h : SlE Ene w (sv s.n) l) (h1 : SlE Enum w v1 a) (h2 : SlE Eboo w v2 b) :
    Calls Try.prog 7 #[.agg (tr s), v1, v2, .int .i64 i] w fun e w' => e = .returned (.bool true) ∧ Below w.heap.size w w' := by
  obtain ⟨s⟩ := s
  have hn := sv_lenN h
  obtain ⟨p, n, cp⟩ := s
  have k1 := h1
  have k2 := h2
  obtain ⟨q1, c1, rfl, _⟩ := slE_shape h1
  obtain ⟨q2, c2, rfl, _⟩ := slE_shape h2
  exact bestOff_n HKi HHe HLi HAl p n cp l q1 _ c1 a q2 _ c2 b i w h hn k1 rfl k2 rfl
end Go.Proofs.Ytjmpgphoiehdmaa
