/-
  Package ring: queueOf of what may be, Clone, same, list, ringOf, New, walked.
-/
import Derived.Test.YtmcnpefnebehfaaRingA
namespace Go.Proofs.Ytmcnpefnebehfaa
open Go.RowKit

theorem splice_qc (l : List Int) (n c : Nat) (h : l.length ≤ 8) : (splice (qc [0, 0, 0, 0, 0, 0, 0, 0] 0 n c).toList 0 (iv l)).toArray = qc (l ++ ([0, 0, 0, 0, 0, 0, 0, 0] : List Int).drop l.length) 0 n c := by
  unfold splice qc
  rw [iv_append, List.take_zero, List.nil_append, Nat.zero_add, iv_length]
  congr 1
  rw [List.append_assoc]
  congr 1
  show List.drop l.length (iv [0, 0, 0, 0, 0, 0, 0, 0] ++ _) = _
  rw [List.drop_append_of_le_length (by simp [iv_length]; omega)]
  simp [iv, List.map_drop]

set_option maxRecDepth 100000 in
set_option maxHeartbeats 1000000 in
theorem queueOf_yes (c : Nat) (p : Option Addr) (cap : Nat) (l : List Int) (w : World) (h : SlI w (.slice p l.length cap) l) (h1 : l.length ≤ c) (h2 : c ≤ 8) :
    Calls Try.prog 22 #[.agg #[.int .i64 (c : Int), .slice p l.length cap]] w (QofIs l c w) := by
  have HS := Lib.hid h; clear h
  have hm : mayB (c : Int) l = true := by rw [mayB_iff]; omega
  have c1 := fun W => may_any (c : Int) p cap l W
  rw [hm] at c1
  have HC := Lib.hid c1
  clear c1 hm
  have HB : Hid (Below w.heap.size w ((w.alloc (.cells #[.int .i64 (c : Int), .slice p l.length cap] 24)).alloc (.cells zq 44))) := ((Below.refl w.heap.size w).alloc (Nat.le_refl _) _).alloc (by simp) _
  have L0 : Hid (((w.alloc (.cells #[.int .i64 (c : Int), .slice p l.length cap] 24)).alloc (.cells zq 44)).heap[w.heap.size + 1]? = some (.cells zq 44 (0, 0))) := heap_alloc2_new w _ _
  have M0 : Hid (((w.alloc (.cells #[.int .i64 (c : Int), .slice p l.length cap] 24)).alloc (.cells zq 44)).heap[w.heap.size]? = some (.cells #[.int .i64 (c : Int), .slice p l.length cap] 24 (0, 0))) := heap_alloc2_old w _ _
  have HL := Lib.hid h1
  have H8 := Lib.hid (Nat.le_trans h1 h2)
  clear h1 h2
  obtain ⟨Q, hQ⟩ : ∃ Q : Array Value, Q = qc [0, 0, 0, 0, 0, 0, 0, 0] 0 l.length c := ⟨_, rfl⟩
  have HX : Hid ((#[.int .i64 0, .int .i64 0, .int .i64 0, .int .i64 0, .int .i64 0, .int .i64 0, .int .i64 0, .int .i64 0, .int .i64 0, .int .i64 (l.length : Int), .int .i64 (c : Int)] : Array Value) = Q) := by rw [hQ]; unfold qc; rfl
  have qs : Q.size = 11 := by rw [hQ, qc_size rfl]
  have qo : okA 11 (.agg #[.int .i64 0, .int .i64 0, .int .i64 0, .int .i64 0, .int .i64 0, .int .i64 0, .int .i64 0, .int .i64 0, .int .i64 0, .int .i64 (l.length : Int), .int .i64 (c : Int)]) = true := by rw [HX.out, hQ]; exact qc_ones rfl
  have HQ := Lib.hid hQ
  clear hQ
  go_enter Try.func22, Try.ntmps22
  go_wp2_with fail
  refine (HC.out _).mono ?_
  rintro e w1 ⟨rfl, g1⟩
  have hb1 : w1.heap[w.heap.size + 1]? = some (.cells zq 44 (0, 0)) := (g1.block _ (by simp)).trans L0.out
  have ha1 : w1.heap[w.heap.size]? = some (.cells #[.int .i64 (c : Int), .slice p l.length cap] 24 (0, 0)) := (g1.block _ (by simp; omega)).trans M0.out
  have G1 := Lib.hid (belowT HB.out g1)
  have HB1 := Lib.hid hb1
  have x0 : w1.cell? ⟨w.heap.size, 0, none⟩ = some (.int .i64 (c : Int)) := by rw [cell_of_row _ _ _ _ _ _ ha1]; rfl
  have x1 : w1.cell? ⟨w.heap.size, 1, none⟩ = some (.slice p l.length cap) := by rw [cell_of_row _ _ _ _ _ _ ha1]; rfl
  have hz : w.heap.size < w1.heap.size := (Array.getElem?_eq_some_iff.1 ha1).1
  have W1 := Lib.hid (Array.getElem?_eq_some_iff.1 hb1).1
  clear g1 hb1 ha1
  go_wp2_with fail
  rw [HX.out]
  have HD : Hid (Below w1.heap.size w1 (w1.alloc (.cells Q 44)).drew) := belowD ((Below.refl w1.heap.size w1).alloc (Nat.le_refl _) _) 1
  have HS1 := Lib.hid (slI_keep (belowT G1.out HD.out) HS.out)
  have HF : Hid (0 + (iv l).length ≤ Q.toList.length) := by
    have h8 := H8.out
    have h11 : Q.toList.length = 11 := by simpa using qs
    show _ ≤ _
    rw [iv_length]; omega
  go_region_law ((refine step_copy_splice rfl (.tmp 16) (.tmp 18) 22 22 rfl 3 Try.underlying22 Try.sizeInt (some ⟨w1.heap.size, 0, none⟩) p 8 8 l.length cap rfl rfl w1.heap.size 0 Q.toList 44 (by rw [Array.toArray_toList]; exact heap_alloc_last w1 _) (iv l) (by rw [iv_length]; exact (Nat.min_eq_left H8.out).symm) (fun hp => ⟨rfl, by
      obtain ⟨b, off, cap', e1, _, _, hx⟩ := slI_ne HS1.out (by rwa [iv_length] at hp)
      injection e1 with e1
      exact ⟨_, e1, slI_cells hx⟩⟩) HF.out (iv_one l) w1.heap.size w1 HD.out (Nat.le_refl _) ?_; intro w4 hg4 hb4))
  all_goals
    rw [HQ.out, splice_qc l _ c H8.out] at hg4
    obtain ⟨pl, hpl⟩ : ∃ pl, pl = l ++ ([0, 0, 0, 0, 0, 0, 0, 0] : List Int).drop l.length := ⟨_, rfl⟩
    rw [← hpl] at hg4
    have hp8 : pl.length = 8 := by rw [hpl]; simp; have := H8.out; omega
    have HP : Hid (∀ i, i < l.length → it pl i = it l i) := fun i hi => by rw [hpl]; simp [it, List.getElem?_append_left hi]
    have q8 := qc_size hp8 0 l.length c
    have qk := qc_ones (f := 0) (n := l.length) (c := c) hp8
    have HP8 := Lib.hid hp8
    clear hpl hp8
    obtain ⟨R, hR⟩ : ∃ R, R = qc pl 0 l.length c := ⟨_, rfl⟩
    rw [← hR] at hg4 q8 qk
    have lx := ldA_block hg4.out q8
    have wx : wrA w4 (.pointer (some ⟨w.heap.size + 1, 0, none⟩)) 11 = true := wrA_block ((hb4.block _ W1.out).trans HB1.out) zq_size
    have HR := Lib.hid hR
    clear hR
    go_wp2_with fail
    have B : Below w.heap.size w (stA w4 (.pointer (some ⟨w.heap.size + 1, 0, none⟩)) (.agg R)) := below_stA (belowT G1.out hb4) (by omega)
    exact bodyPost_ret (results_aggI2 Try.isAgg44 Try.sizeOf44 _ 2 3 rfl _ _ _ R _ rfl rfl (ldA_stA_same wx q8)) rfl ⟨pl, by rw [HR.out]; rfl, HP8.out, HP.out, B⟩
end Go.Proofs.Ytmcnpefnebehfaa
