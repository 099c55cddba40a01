/-
  The law RootUnion, walked.
-/
import Derived.Test.YtecppjbbodpcnaaRootL
namespace Go.Proofs.Ytecppjbbodpcnaa
open Go.RowKit

theorem srt_union (l k : List Rt) : srt (srt l ++ srt k) = srt (l ++ k) := by
  apply srt_eq (srt_rising _)
  intro x
  rw [srt_mem, List.mem_append, List.mem_append, srt_mem, srt_mem]
theorem owns_below {w w1 : World} {base : Nat} {e : TypeId} {size : Nat} {v : Value} {n : Nat} {xs : List Value} (h : w.ownsRow base e size v n xs) (g : Below w.heap.size w w1) : w1.ownsRow base e size v n xs := by
  refine ⟨h.1, ?_⟩
  rcases h.2 with h2 | ⟨b, cap, cur, h1, h2, h3, h4⟩
  · exact .inl h2
  · exact .inr ⟨b, cap, cur, h1, h2, (g.block b (Array.getElem?_eq_some_iff.1 h3).1).trans h3, h4⟩
theorem owns_none (w : World) (base : Nat) : w.ownsRow base 23 32 (.slice none 0 0) ([] : List Rt).length (cellsL []) := World.ownsRow_nil _ _ _ _
theorem below_none {w w1 : World} (g : w.grownBy w1 (Value.slice none 0 0).ownBlock) : Below w.heap.size w w1 := (Below.refl _ _).grown g (Nat.le_refl _) (fun k hk => by cases hk)
theorem below_own {B : Nat} {a w w1 : World} (h : Below B a w) (hB : B ≤ w.heap.size) {e : TypeId} {size : Nat} {v : Value} {n : Nat} {xs : List Value} (ho : w.ownsRow B e size v n xs) (g : w.grownBy w1 v.ownBlock) : Below B a w1 := h.grown g hB (fun k hk => (ho.lt k hk).1)

set_option maxRecDepth 100000 in
set_option maxHeartbeats 4000000 in
theorem rootUnion_short (p1 p2 : Option Addr) (c1 c2 : Nat) (l k : List Rt) (w : World) (h1 : SlR w (.slice p1 l.length c1) l) (h2 : SlR w (.slice p2 k.length c2) k) (hl : l.length ≤ 60) (hk : k.length ≤ 60) :
    Calls Try.prog 7 #[.slice p1 l.length c1, .slice p2 k.length c2] w fun e w' => e = .returned (.bool true) ∧ Below w.heap.size w w' := by
  have z1 : decide ((60 : Int) < (l.length : Int)) = false := by simp; omega
  have z2 : decide ((60 : Int) < (k.length : Int)) = false := by simp; omega
  have sl := srt_le l
  have sk := srt_le k
  have H1 := Lib.hid h1
  have H2 := Lib.hid h2
  clear h1 h2
  have hlk : (l ++ k).length ≤ 120 := by simp; omega
  have hss : (srt l ++ srt k).length ≤ 120 := by simp; omega
  have HU := Lib.hid (srt_union l k)
  have hsu := srt_le (l ++ k)
  go_enter Try.func7, Try.ntmps7
  go_wp2_with fail
  refine (awake_any _).mono ?_
  rintro e w0 ⟨rfl, g0⟩
  have S1 := Lib.hid (slR_keep g0 H1.out)
  have S2 := Lib.hid (slR_keep g0 H2.out)
  go_wp2_with (first
    | (at_builtin; refine wpList_append_roots w0 rfl (.const (.slice none 0 0)) (.tmp 23) rfl w0.heap.size _ [] rfl (owns_none _ _) _ l rfl S1.out (by simp; omega) (Nat.le_refl _) ?_; intro v1 w1 o1 n1)
    | (at_builtin; refine wpList_append_roots w1 rfl (.tmp 24) (.tmp 25) rfl w0.heap.size _ l rfl o1 _ k rfl (slR_keep (below_none n1) S2.out) (by omega) n1.size ?_; intro v2 w2 o2 n2))
  have B2 : Below w0.heap.size w0 w2 := below_own (below_none n1) n1.size o1 n2
  have s2 := n2.size
  have T1 := Lib.hid (slR_keep B2 S1.out)
  refine (sort_any _ l _ T1.out (by omega)).mono ?_
  rintro e w3 ⟨v3, rfl, q3, g3⟩
  have A3 := Lib.hid (slR_keep g3 (slR_of_owns o2))
  have K3 := Lib.hid (slR_keep g3 (slR_keep B2 S2.out))
  have Q3 := Lib.hid q3
  clear q3
  go_wp2_with (at_builtin; refine wpList_append_roots w3 rfl (.const (.slice none 0 0)) (.tmp 28) rfl w3.heap.size _ [] rfl (owns_none _ _) _ (srt l) rfl Q3.out (by simp; omega) (Nat.le_refl _) ?_; intro v4 w4 o4 n4)
  have B4 := below_none n4
  refine (sort_any _ k _ (slR_keep B4 K3.out) (by omega)).mono ?_
  rintro e w5 ⟨v5, rfl, q5, g5⟩
  have Q5 := Lib.hid q5
  clear q5
  have o5 := owns_below o4 g5
  have B5 := B4.trans (g5.mono B4.size)
  have s5 := B5.size
  go_wp2_with (at_builtin; refine wpList_append_roots w5 rfl (.tmp 29) (.tmp 31) rfl w3.heap.size _ (srt l) rfl o5 _ (srt k) rfl Q5.out (by omega) s5 ?_; intro v6 w6 o6 n6)
  have B6 : Below w3.heap.size w3 w6 := below_own B5 s5 o5 n6
  have A6 := Lib.hid (slR_keep B6 A3.out)
  have O6 := Lib.hid (slR_of_owns o6)
  refine (sort_any _ (l ++ k) _ A6.out (by omega)).mono ?_
  rintro e w7 ⟨v7, rfl, q7, g7⟩
  have Q7 := Lib.hid q7
  clear q7
  go_wp2_with fail
  refine (sort_any _ (srt l ++ srt k) _ (slR_keep g7 O6.out) (by omega)).mono ?_
  rintro e w8 ⟨v8, rfl, q8, g8⟩
  rw [HU.out] at q8
  have Q8 := Lib.hid q8
  clear q8
  go_wp2_with fail
  refine (same_any _ _ (srt (l ++ k)) _ (by omega) (slR_keep g8 Q7.out) Q8.out).mono ?_
  rintro e w9 ⟨rfl, g9⟩
  go_wp2_with fail
  go_ret
  have b2 : Below w.heap.size w w2 := g0.trans (B2.mono g0.size)
  have b6 : Below w.heap.size w w6 := (belowT b2 g3).trans (B6.mono (belowT b2 g3).size)
  exact ⟨rfl, belowT (belowT (belowT b6 g7) g8) g9⟩

set_option maxRecDepth 100000 in
set_option maxHeartbeats 4000000 in
theorem rootUnion_long (p1 p2 : Option Addr) (n1 n2 c1 c2 : Nat) (h : 60 < n1 ∨ 60 < n2) (w : World) :
    Calls Try.prog 7 #[.slice p1 n1 c1, .slice p2 n2 c2] w fun e w' => e = .returned (.bool true) ∧ Below w.heap.size w w' := by
  by_cases h1 : 60 < n1
  · have z1 : decide ((60 : Int) < (n1 : Int)) = true := by simp; omega
    go_enter Try.func7, Try.ntmps7
    go_wp2_with fail
    refine (awake_any _).mono ?_
    rintro e w0 ⟨rfl, g0⟩
    go_wp2_with fail
    go_ret
    exact ⟨rfl, g0⟩
  · have z1 : decide ((60 : Int) < (n1 : Int)) = false := by simp; omega
    have z2 : decide ((60 : Int) < (n2 : Int)) = true := by simp; omega
    go_enter Try.func7, Try.ntmps7
    go_wp2_with fail
    refine (awake_any _).mono ?_
    rintro e w0 ⟨rfl, g0⟩
    go_wp2_with fail
    go_ret
    exact ⟨rfl, g0⟩
theorem rootUnion_walk (v1 : Value) (l : List Rt) (v2 : Value) (k : List Rt) (w : World) (h1 : SlR w v1 l) (h2 : SlR w v2 k) :
    Calls Try.prog 7 #[v1, v2] w fun e w' => e = .returned (.bool true) ∧ Below w.heap.size w w' := by
  have h1' := h1
  have h2' := h2
  obtain ⟨p1, c1, rfl, _⟩ := h1
  obtain ⟨p2, c2, rfl, _⟩ := h2
  by_cases h : 60 < l.length ∨ 60 < k.length
  · exact rootUnion_long p1 p2 _ _ c1 c2 h w
  · exact rootUnion_short p1 p2 c1 c2 l k w h1' h2' (by omega) (by omega)
end Go.Proofs.Ytecppjbbodpcnaa
