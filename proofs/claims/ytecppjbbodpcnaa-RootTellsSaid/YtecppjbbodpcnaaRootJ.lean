/-
  The law RootBack, walked.
-/
import Derived.Test.YtecppjbbodpcnaaRootI
import Derived.WalkLawsBesides
namespace Go.Proofs.Ytecppjbbodpcnaa
open Go.RowKit

theorem dg_valD {c : UInt8} (h : (vOf c).isSome = true) : dg (valD c) = c := by
  obtain ⟨p, hp⟩ := Option.isSome_iff_exists.1 h
  unfold valD
  rw [hp]
  exact (vOf_some hp).2
/-- What is read of a text has it. -/
theorem text_of {l : List UInt8} {r : Rt} (h : ofL l = some r) : textL r.toList = l := by
  unfold ofL at h
  split at h
  · rename_i hc
    obtain ⟨hl, ha⟩ := hc
    have hr : packR l 64 = r := Option.some.inj h
    subst hr
    apply List.ext_getElem?
    intro j
    by_cases hj : j < 64
    · have hx : ∀ i, i < 64 → (vOf (l.getD i 0)).isSome = true := fun i hi => by
        rw [getD_in _ (by omega)]
        exact List.all_eq_true.1 ha _ (List.getElem_mem _)
      obtain ⟨h1, h2⟩ := textL_get (packR l 64).toList (j / 2) (by simp; omega)
      have hv : ((packR l 64).toList[j / 2]'(by simp; omega)).toNat = 16 * valD (l.getD (2 * (j / 2)) 0) + valD (l.getD (2 * (j / 2) + 1) 0) := by
        have := packR_at l 64 (j / 2) (by omega)
        rw [at8_get _ _ (by omega)] at this
        unfold pByte at this
        rw [if_pos (by omega)] at this
        omega
      have b1 := valD_lt (l.getD (2 * (j / 2)) 0)
      have b2 := valD_lt (l.getD (2 * (j / 2) + 1) 0)
      rw [hv] at h1 h2
      have hlj : l[j]? = some (l.getD j 0) := by rw [getD_in _ (by omega), List.getElem?_eq_getElem]
      by_cases e : j % 2 = 0
      · rw [show 2 * (j / 2) = j by omega] at h1
        rw [h1, hlj, show (16 * valD (l.getD j 0) + valD (l.getD (j + 1) 0)) / 16 = valD (l.getD j 0) by rw [show 2 * (j / 2) = j by omega] at b2; omega, dg_valD (hx j hj)]
      · rw [show 2 * (j / 2) + 1 = j by omega] at h2 b2
        rw [h2, hlj, show (16 * valD (l.getD (2 * (j / 2)) 0) + valD (l.getD j 0)) % 16 = valD (l.getD j 0) by omega, dg_valD (hx j hj)]
    · rw [List.getElem?_eq_none (by rw [textR_length]; omega), List.getElem?_eq_none (by omega)]
  · cases h

/-- The law's reading of a text. -/
theorem of_some {l : List UInt8} {r : Rt} (h : ofL l = some r) (s : ByteArray) (hs : s.data.toList = l) (W : World) : Calls Try.prog 10 #[.string s] W fun e w' => e = .returned (.tuple #[.agg (rc r), .bool true]) ∧ Below W.heap.size W w' := by
  have c := of_any s W
  unfold OfIs ofR ofB at c
  rw [hs, h] at c
  simp only [Option.getD_some, Option.isSome_some] at c
  exact c
theorem of_none {l : List UInt8} (h : ofL l = none) (s : ByteArray) (hs : s.data.toList = l) (W : World) : Calls Try.prog 10 #[.string s] W fun e w' => e = .returned (.tuple #[.agg (rc zr), .bool false]) ∧ Below W.heap.size W w' := by
  have c := of_any s W
  unfold OfIs ofR ofB at c
  rw [hs, h] at c
  simp only [Option.getD_none, Option.isSome_none] at c
  exact c

theorem dg_lt : ∀ p q : Fin 16, decide (dg p.val < dg q.val) = decide (p.val < q.val) := by decide
theorem lessL_text : ∀ a b : List UInt8, lessL (textL a) (textL b) = lessL a b
  | [], b => by cases b <;> simp [textL, lessL]
  | x :: xs, [] => by simp [textL, lessL, dig2]
  | x :: xs, y :: ys => by
    have ih := lessL_text xs ys
    have hx := x.toNat_lt
    have hy := y.toNat_lt
    have e1 : textL (x :: xs) = dg (x.toNat / 16) :: dg (x.toNat % 16) :: textL xs := rfl
    have e2 : textL (y :: ys) = dg (y.toNat / 16) :: dg (y.toNat % 16) :: textL ys := rfl
    rw [e1, e2, lessL, lessL, lessL]
    have hi := dg_inj ⟨x.toNat / 16, by omega⟩ ⟨y.toNat / 16, by omega⟩
    have hl := dg_inj ⟨x.toNat % 16, by omega⟩ ⟨y.toNat % 16, by omega⟩
    have gi := dg_lt ⟨x.toNat / 16, by omega⟩ ⟨y.toNat / 16, by omega⟩
    have gl := dg_lt ⟨x.toNat % 16, by omega⟩ ⟨y.toNat % 16, by omega⟩
    simp only [Fin.mk.injEq] at hi hl
    by_cases h : x = y
    · subst h
      rw [if_pos rfl, if_pos rfl, if_pos rfl, ih]
    · have hne : x.toNat ≠ y.toNat := fun e => h (UInt8.toNat_inj.1 e)
      rw [if_neg h]
      by_cases h1 : x.toNat / 16 = y.toNat / 16
      · rw [if_pos (by rw [h1]), if_neg (fun e => hne (by have := hl e; omega))]
        rw [gl, decide_eq_decide, UInt8.lt_iff_toNat_lt]
        show x.toNat % 16 < y.toNat % 16 ↔ _
        omega
      · rw [if_neg (fun e => h1 (hi e)), gi, decide_eq_decide, UInt8.lt_iff_toNat_lt]
        show x.toNat / 16 < y.toNat / 16 ↔ _
        omega
theorem bytesLess_lessL : ∀ a b : List UInt8, a.length = b.length → Op.bytesLess a b = lessL a b
  | [], [], _ => rfl
  | [], _ :: _, h => by simp at h
  | _ :: _, [], h => by simp at h
  | x :: xs, y :: ys, h => by
    have ih := bytesLess_lessL xs ys (by simpa using h)
    unfold Op.bytesLess lessL
    by_cases e : x = y
    · subst e; simp [ih]
    · rw [if_neg e]
      simp [e, ih]
def tx (r : Rt) : ByteArray := ⟨(textL r.toList).toArray⟩
theorem tx_any (r : Rt) (W : World) : Calls Try.prog 17 #[.agg (rc r)] W fun e w' => e = .returned (.string (tx r)) ∧ Below W.heap.size W w' := text_any r W
theorem tx_of (r : Rt) (W : World) : Calls Try.prog 10 #[.string (tx r)] W fun e w' => e = .returned (.tuple #[.agg (rc r), .bool true]) ∧ Below W.heap.size W w' := of_some (ofL_text r) (tx r) rfl W
theorem tx_less (a b : Rt) : Op.bytesLess (tx a).toList (tx b).toList = lessR a b := by
  have e : ∀ r : Rt, (tx r).toList = textL r.toList := fun r => by rw [ByteArray.toList_eq]; rfl
  rw [e, e, bytesLess_lessL _ _ (by rw [textR_length, textR_length]), lessL_text]
  rfl
theorem tx_size (r : Rt) : (tx r).size = 64 := text_size r

set_option maxRecDepth 100000 in
set_option maxHeartbeats 2000000 in
theorem rootBack_yes (a b y : Rt) (w : World) :
    Calls Try.prog 4 #[.agg (rc a), .agg (rc b), .string (tx y)] w fun e w' => e = .returned (.bool true) ∧ Below w.heap.size w w' := by
  have ca := fun W => tx_any a W
  have cb := fun W => tx_any b W
  have cy := fun W => tx_any y W
  have oa := fun W => tx_of a W
  have oy := fun W => tx_of y W
  have cl := fun W => less_b a b W
  have hz : ((tx y).size : Int) = 64 := by rw [tx_size]; rfl
  have he := eqB_self a
  have hlt := tx_less a b
  generalize tx a = A at *
  generalize tx y = Y at *
  go_enter Try.func4, Try.ntmps4
  go_wp2_with fail
  refine (awake_any _).mono ?_
  rintro e w0 ⟨rfl, g0⟩
  have a0 : ldA w0 (.pointer (some ⟨w.heap.size, 0, none⟩)) 32 = some (rc a) := keep g0 (by go_simp)
  have b0 : ldA w0 (.pointer (some ⟨w.heap.size + 1, 0, none⟩)) 32 = some (rc b) := keep g0 (by go_simp)
  go_wp2_with fail
  refine (ca _).mono ?_
  rintro e w1 ⟨rfl, g1⟩
  have a1 := keep g1 a0
  have b1 := keep g1 b0
  go_wp2_with fail
  refine (oa _).mono ?_
  rintro e w2 ⟨rfl, g2⟩
  have a2 := keep g2 a1
  have b2 := keep g2 b1
  go_wp2_with fail
  refine (oy _).mono ?_
  rintro e w3 ⟨rfl, g3⟩
  have x3 : ldA w3 (.pointer (some ⟨w2.heap.size, 0, none⟩)) 32 = some (rc a) := keep g3 (by go_simp)
  have a3 : ldA w3 (.pointer (some ⟨w.heap.size, 0, none⟩)) 32 = some (rc a) := keep g3 ((ldA_alloc _ _ _ _ _ (ldA_lt a2 (by decide))).trans a2)
  have b3 : ldA w3 (.pointer (some ⟨w.heap.size + 1, 0, none⟩)) 32 = some (rc b) := keep g3 ((ldA_alloc _ _ _ _ _ (ldA_lt b2 (by decide))).trans b2)
  have la3 := ldA_lt a3 (by decide)
  have lb3 := ldA_lt b3 (by decide)
  have lx3 := ldA_lt x3 (by decide)
  go_wp2_with fail
  refine (cy _).mono ?_
  rintro e w4 ⟨rfl, g4⟩
  have a4 : ldA w4 (.pointer (some ⟨w.heap.size, 0, none⟩)) 32 = some (rc a) := keep g4 ((ldA_alloc _ _ _ _ _ la3).trans a3)
  have b4 : ldA w4 (.pointer (some ⟨w.heap.size + 1, 0, none⟩)) 32 = some (rc b) := keep g4 ((ldA_alloc _ _ _ _ _ lb3).trans b3)
  go_wp2_with fail
  have aw := fun p : Wd w4 => ldA_wd a4 (by decide) p
  have bw := fun p : Wd w4 => ldA_wd b4 (by decide) p
  clear a4 b4 a3 b3 x3 a2 b2 a1 b1 a0 b0
  refine wp_region_grown (by kernel_rfl) (by kernel_rfl) ?_
  repeat (first | go_big_quiet_step ((first | (go_at_call 17; exact calls_wd (cb _)) | (go_at_call 16; exact calls_wd (cl _)))) | quiet_step ((first | (go_at_call 17; exact calls_wd (cb _)) | (go_at_call 16; exact calls_wd (cl _)))))
  refine wpQuiet_nil ?_
  rintro _ ⟨⟨w5, g5⟩, rfl⟩
  go_wp2_with fail
  go_ret
  exact ⟨rfl, belowT (belowT (belowA (belowT (belowA (belowT (belowT (belowT (belowA (belowA (Below.refl _ _) _) _) g0) g1) g2) _) g3) _) g4) g5⟩
set_option maxRecDepth 100000 in
set_option maxHeartbeats 2000000 in
theorem rootBack_no (a b : Rt) (s : ByteArray) (hs : s.size ≤ 200) (hn : ofL s.data.toList = none) (w : World) :
    Calls Try.prog 4 #[.agg (rc a), .agg (rc b), .string s] w fun e w' => e = .returned (.bool true) ∧ Below w.heap.size w w' := by
  have ca := fun W => tx_any a W
  have cb := fun W => tx_any b W
  have oa := fun W => tx_of a W
  have oy := fun W => of_none hn s rfl W
  have cl := fun W => less_b a b W
  have hz : decide ((200 : Int) < (s.size : Int)) = false := by simp; omega
  have he2 := eqB_self zr
  clear hn hs
  have he := eqB_self a
  have hlt := tx_less a b
  generalize tx a = A at *
  go_enter Try.func4, Try.ntmps4
  go_wp2_with fail
  refine (awake_any _).mono ?_
  rintro e w0 ⟨rfl, g0⟩
  have a0 : ldA w0 (.pointer (some ⟨w.heap.size, 0, none⟩)) 32 = some (rc a) := keep g0 (by go_simp)
  have b0 : ldA w0 (.pointer (some ⟨w.heap.size + 1, 0, none⟩)) 32 = some (rc b) := keep g0 (by go_simp)
  go_wp2_with fail
  refine (ca _).mono ?_
  rintro e w1 ⟨rfl, g1⟩
  have a1 := keep g1 a0
  have b1 := keep g1 b0
  go_wp2_with fail
  refine (oa _).mono ?_
  rintro e w2 ⟨rfl, g2⟩
  have a2 := keep g2 a1
  have b2 := keep g2 b1
  go_wp2_with fail
  refine (oy _).mono ?_
  rintro e w3 ⟨rfl, g3⟩
  have x3 : ldA w3 (.pointer (some ⟨w2.heap.size, 0, none⟩)) 32 = some (rc a) := keep g3 (by go_simp)
  have a3 : ldA w3 (.pointer (some ⟨w.heap.size, 0, none⟩)) 32 = some (rc a) := keep g3 ((ldA_alloc _ _ _ _ _ (ldA_lt a2 (by decide))).trans a2)
  have b3 : ldA w3 (.pointer (some ⟨w.heap.size + 1, 0, none⟩)) 32 = some (rc b) := keep g3 ((ldA_alloc _ _ _ _ _ (ldA_lt b2 (by decide))).trans b2)
  have la3 := ldA_lt a3 (by decide)
  have lb3 := ldA_lt b3 (by decide)
  have lx3 := ldA_lt x3 (by decide)
  go_wp2_with fail
  have a4 : ldA (w3.alloc (.cells (rc zr) 23)) (.pointer (some ⟨w.heap.size, 0, none⟩)) 32 = some (rc a) := (ldA_alloc _ _ _ _ _ la3).trans a3
  have b4 : ldA (w3.alloc (.cells (rc zr) 23)) (.pointer (some ⟨w.heap.size + 1, 0, none⟩)) 32 = some (rc b) := (ldA_alloc _ _ _ _ _ lb3).trans b3
  have aw := fun p : Wd (w3.alloc (.cells (rc zr) 23)) => ldA_wd a4 (by decide) p
  have bw := fun p : Wd (w3.alloc (.cells (rc zr) 23)) => ldA_wd b4 (by decide) p
  clear a4 b4 a3 b3 x3 a2 b2 a1 b1 a0 b0
  refine wp_region_grown (by kernel_rfl) (by kernel_rfl) ?_
  repeat (first | go_big_quiet_step ((first | (go_at_call 17; exact calls_wd (cb _)) | (go_at_call 16; exact calls_wd (cl _)))) | quiet_step ((first | (go_at_call 17; exact calls_wd (cb _)) | (go_at_call 16; exact calls_wd (cl _)))))
  refine wpQuiet_nil ?_
  rintro _ ⟨⟨w5, g5⟩, rfl⟩
  go_wp2_with fail
  go_ret
  exact ⟨rfl, belowT (belowA (belowT (belowA (belowT (belowT (belowT (belowA (belowA (Below.refl _ _) _) _) g0) g1) g2) _) g3) _) g5⟩

set_option maxRecDepth 100000 in
set_option maxHeartbeats 2000000 in
theorem rootBack_long (a b : Rt) (s : ByteArray) (hs : 200 < s.size) (w : World) :
    Calls Try.prog 4 #[.agg (rc a), .agg (rc b), .string s] w fun e w' => e = .returned (.bool true) ∧ Below w.heap.size w w' := by
  have hz : decide ((200 : Int) < (s.size : Int)) = true := by simp; omega
  go_enter Try.func4, Try.ntmps4
  go_wp2_with fail
  refine (awake_any _).mono ?_
  rintro e w0 ⟨rfl, g0⟩
  go_wp2_with fail
  go_ret
  exact ⟨rfl, belowT (belowA (belowA (Below.refl _ _) _) _) g0⟩
theorem rootBack_walk (a b : Rt) (s : ByteArray) (w : World) :
    Calls Try.prog 4 #[.agg (rc a), .agg (rc b), .string s] w fun e w' => e = .returned (.bool true) ∧ Below w.heap.size w w' := by
  by_cases h : 200 < s.size
  · exact rootBack_long a b s h w
  · cases hy : ofL s.data.toList with
    | none => exact rootBack_no a b s (by omega) hy w
    | some y =>
      have e : s = tx y := by
        apply ByteArray.ext
        apply Array.toList_inj.1
        show s.data.toList = textL y.toList
        exact (text_of hy).symm
      rw [e]
      exact rootBack_yes a b y w
end Go.Proofs.Ytecppjbbodpcnaa
