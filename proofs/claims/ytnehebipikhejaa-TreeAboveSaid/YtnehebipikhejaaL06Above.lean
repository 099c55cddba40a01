/-
  The law TreeAbove, walked (written by wip/gen/lawAbove.py).
-/
import Derived.Test.YtnehebipikhejaaL06AbB
import Derived.Test.YtnehebipikhejaaL06AbC
import Derived.Test.YtnehebipikhejaaL06AbD
import Derived.Test.YtnehebipikhejaaL06AbE
namespace Go.Proofs.Ytnehebipikhejaa
open Go.RowKit

set_option maxRecDepth 100000 in
set_option maxHeartbeats 8000000 in
theorem treeAboveL_yes (b1 o1 n cp : Nat) (l : List Nd) (a b c : Int) (w : World) (h : SlE Ene w (.slice (some ⟨b1, o1, none⟩) n cp) l) (hx : w.rangeAt b1 o1 (cellsE Ene l)) (hl : l.length = n) (hm : MayT l) :
    Calls Try.prog 5 #[.agg (tr ⟨⟨some ⟨b1, o1, none⟩, n, cp⟩⟩), .int .i64 a, .int .i64 b, .int .i64 c] w fun e w' => e = .returned (.bool true) ∧ Below w.heap.size w w' := by
  have HM : Hid (∀ W, SlE Ene W (.slice (some ⟨b1, o1, none⟩) n cp) l → Calls Try.prog 24 #[.agg (tr ⟨⟨some ⟨b1, o1, none⟩, n, cp⟩⟩)] W fun e w' => e = .returned (.bool true) ∧ Below W.heap.size W w') := fun W g => by
    have := treeMay ⟨some ⟨b1, o1, none⟩, n, cp⟩ l W g
    rwa [decide_eq_true hm] at this
  have HLK := Lib.hid (⟨h, hx, hl, hm⟩ : SlE Ene w (.slice (some ⟨b1, o1, none⟩) n cp) l ∧ w.rangeAt b1 o1 (cellsE Ene l) ∧ l.length = n ∧ MayT l)
  have V : Hid (Tv w (w.alloc (.cells (tr ⟨⟨some ⟨b1, o1, none⟩, n, cp⟩⟩) 24)) w.heap.size b1 o1 n cp l) := ⟨heap_alloc_last w _, slE_keep below1 h, keepR below1 hx, below1⟩
  by_cases hr : 0 ≤ a ∧ 0 ≤ b ∧ 0 ≤ c ∧ a < n ∧ b < n ∧ c < n
  · obtain ⟨ha, hb, hc, ha', hb', hc'⟩ := hr
    have r0 : decide (a < 0) = false := decide_eq_false (by omega)
    have r1 : decide (b < 0) = false := decide_eq_false (by omega)
    have r2 : decide (c < 0) = false := decide_eq_false (by omega)
    have r3 : decide ((n : Int) ≤ a) = false := decide_eq_false (by omega)
    have r4 : decide ((n : Int) ≤ b) = false := decide_eq_false (by omega)
    have r5 : decide ((n : Int) ≤ c) = false := decide_eq_false (by omega)
    obtain ⟨a', rfl⟩ : ∃ a' : Nat, a = a' := ⟨a.toNat, by omega⟩
    obtain ⟨b', rfl⟩ : ∃ b' : Nat, b = b' := ⟨b.toNat, by omega⟩
    obtain ⟨c', rfl⟩ : ∃ c' : Nat, c = c' := ⟨c.toNat, by omega⟩
    have L := law_above hm (a := a') (b := b') (c := c') (by omega) (by omega) (by omega)
    have e0 := aboveZ_nat hm (i := 0) (k := a') (by omega) (by omega)
    rw [show ((0 : Nat) : Int) = 0 from rfl] at e0
    have ez : ∀ i k : Nat, i < n → k < n → aboveZ l (i : Int) (k : Int) = aboveT l i k := fun i k hi hk => aboveZ_nat hm (by omega) (by omega)
    rw [← e0, ← ez a' a' (by omega) (by omega), ← ez a' b' (by omega) (by omega), ← ez b' c' (by omega) (by omega), ← ez a' c' (by omega) (by omega), ← ez b' a' (by omega) (by omega), ← ez c' b' (by omega) (by omega), ← ez c' a' (by omega) (by omega)] at L
    obtain ⟨l0, l1, l3, l4, l5⟩ := L
    cases ex : aboveZ l (a' : Int) (b' : Int)
    · exact aboveLeaf_1 b1 o1 n cp l _ _ _ w h hx hl hm r0 r1 r2 r3 r4 r5 l0 l1 ex
    cases ey : aboveZ l (b' : Int) (c' : Int)
    · cases eu : aboveZ l (b' : Int) (a' : Int)
      · cases ev : aboveZ l (c' : Int) (b' : Int)
        · exact aboveLeaf_2 b1 o1 n cp l _ _ _ w h hx hl hm r0 r1 r2 r3 r4 r5 l0 l1 ex ey eu ev
        · cases ez : aboveZ l (a' : Int) (c' : Int)
          · have et := l5 ex ev ez
            exact aboveLeaf_4 b1 o1 n cp l _ _ _ w h hx hl hm r0 r1 r2 r3 r4 r5 l0 l1 ex ey eu ev ez et
          · exact aboveLeaf_3 b1 o1 n cp l _ _ _ w h hx hl hm r0 r1 r2 r3 r4 r5 l0 l1 ex ey eu ev ez
      · cases ev : aboveZ l (c' : Int) (b' : Int)
        · exact aboveLeaf_5 b1 o1 n cp l _ _ _ w h hx hl hm r0 r1 r2 r3 r4 r5 l0 l1 ex ey eu ev (by rw [beq_iff_eq]; have := l4 ex eu; omega)
        · cases ez : aboveZ l (a' : Int) (c' : Int)
          · have et := l5 ex ev ez
            exact aboveLeaf_7 b1 o1 n cp l _ _ _ w h hx hl hm r0 r1 r2 r3 r4 r5 l0 l1 ex ey eu ev ez et (by rw [beq_iff_eq]; have := l4 ex eu; omega)
          · exact aboveLeaf_6 b1 o1 n cp l _ _ _ w h hx hl hm r0 r1 r2 r3 r4 r5 l0 l1 ex ey eu ev ez (by rw [beq_iff_eq]; have := l4 ex eu; omega)
    · have ez := l3 ex ey
      cases eu : aboveZ l (b' : Int) (a' : Int)
      · cases ev : aboveZ l (c' : Int) (b' : Int)
        · exact aboveLeaf_8 b1 o1 n cp l _ _ _ w h hx hl hm r0 r1 r2 r3 r4 r5 l0 l1 ex ey eu ez ev
        · exact aboveLeaf_9 b1 o1 n cp l _ _ _ w h hx hl hm r0 r1 r2 r3 r4 r5 l0 l1 ex ey eu ez ev
      · cases ev : aboveZ l (c' : Int) (b' : Int)
        · exact aboveLeaf_10 b1 o1 n cp l _ _ _ w h hx hl hm r0 r1 r2 r3 r4 r5 l0 l1 ex ey eu ez ev (by rw [beq_iff_eq]; have := l4 ex eu; omega)
        · exact aboveLeaf_11 b1 o1 n cp l _ _ _ w h hx hl hm r0 r1 r2 r3 r4 r5 l0 l1 ex ey eu ez ev (by rw [beq_iff_eq]; have := l4 ex eu; omega)
  clear h hx hl hm
  go_enter Try.func5, Try.ntmps5
  go_wp2_with fail
  refine (awake_any _).mono ?_
  rintro e w1 ⟨rfl, g⟩
  replace V := Lib.hid (V.out.keep g)
  have z0 := V.out.z0
  have z1 := V.out.z1
  clear g
  go_wp2_with fail
  refine (HM.out w1 V.out.s).mono ?_
  rintro e w2 ⟨rfl, g⟩
  replace V := Lib.hid (V.out.keep g)
  replace z0 := V.out.z0
  replace z1 := V.out.z1
  clear g
  by_cases ht0 : a < 0
  · have t0 : decide (a < 0) = true := decide_eq_true ht0
    clear ht0 hr
    go_wp2_with fail
    go_ret
    exact ⟨rfl, V.out.g⟩
  have t0 : decide (a < 0) = false := decide_eq_false ht0
  by_cases ht1 : b < 0
  · have t1 : decide (b < 0) = true := decide_eq_true ht1
    clear ht1 hr
    go_wp2_with fail
    go_ret
    exact ⟨rfl, V.out.g⟩
  have t1 : decide (b < 0) = false := decide_eq_false ht1
  by_cases ht2 : c < 0
  · have t2 : decide (c < 0) = true := decide_eq_true ht2
    clear ht2 hr
    go_wp2_with fail
    go_ret
    exact ⟨rfl, V.out.g⟩
  have t2 : decide (c < 0) = false := decide_eq_false ht2
  by_cases ht3 : (n : Int) ≤ a
  · have t3 : decide ((n : Int) ≤ a) = true := decide_eq_true ht3
    clear ht3 hr
    go_wp2_with fail
    go_ret
    exact ⟨rfl, V.out.g⟩
  have t3 : decide ((n : Int) ≤ a) = false := decide_eq_false ht3
  by_cases ht4 : (n : Int) ≤ b
  · have t4 : decide ((n : Int) ≤ b) = true := decide_eq_true ht4
    clear ht4 hr
    go_wp2_with fail
    go_ret
    exact ⟨rfl, V.out.g⟩
  have t4 : decide ((n : Int) ≤ b) = false := decide_eq_false ht4
  by_cases ht5 : (n : Int) ≤ c
  · have t5 : decide ((n : Int) ≤ c) = true := decide_eq_true ht5
    clear ht5 hr
    go_wp2_with fail
    go_ret
    exact ⟨rfl, V.out.g⟩
  have t5 : decide ((n : Int) ≤ c) = false := decide_eq_false ht5
  exact absurd ⟨by omega, by omega, by omega, by omega, by omega, by omega⟩ hr
/-- The law. -/
theorem treeAboveL (x : Tr) (l : List Nd) (a b c : Int) (w : World) (h : SlE Ene w (sv x.n) l) :
    Calls Try.prog 5 #[.agg (tr x), .int .i64 a, .int .i64 b, .int .i64 c] w fun e w' => e = .returned (.bool true) ∧ Below w.heap.size w w' := by
  obtain ⟨s⟩ := x
  by_cases hm : MayT l
  · have hn := sv_lenN h
    obtain ⟨p, n, cp⟩ := s
    dsimp only at hn
    subst hn
    obtain ⟨b1, o1, rfl, _, hx⟩ := slE_ptr h hm.pos
    exact treeAboveL_yes b1 o1 _ cp l a b c w h hx rfl hm
  · exact treeAboveL_no s l a b c w h (decide_eq_false hm)
end Go.Proofs.Ytnehebipikhejaa
