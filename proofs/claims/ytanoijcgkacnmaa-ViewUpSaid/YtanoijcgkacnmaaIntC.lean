/-
  slices.Index and slices.Contains of ints, walked.
-/
import Derived.Test.YtanoijcgkacnmaaGJ
namespace Go.Proofs.Ytanoijcgkacnmaa
open Go.RowKit

/-- Where x first stands among the first j; -1, if it does not. -/
theorem notin_take {l : List Int} {x : Int} {j : Nat} (hj : j < l.length) (h : x ∉ l.take j) (hx : ¬ x = l.getD j 0) : x ∉ l.take (j + 1) := by
  rw [List.take_add_one, List.mem_append, List.getElem?_eq_getElem hj]
  rw [List.getD_eq_getElem?_getD, List.getElem?_eq_getElem hj] at hx
  simp only [Option.toList_some, List.mem_singleton, not_or]
  exact ⟨h, hx⟩

set_option maxRecDepth 100000 in
set_option maxHeartbeats 4000000 in
theorem indexInt (p : Option Addr) (n cp : Nat) (l : List Int) (x : Int) (w : World) (h : SlE Eint w (.slice p n cp) l) (hl : l.length = n) (hn : n ≤ 1000) :
    Calls Try.prog 34 #[.slice p n cp, .int .i64 x] w fun e w' => ∃ r : Int, e = .returned (.int .i64 r) ∧ decide (0 ≤ r) = decide (x ∈ l) ∧ Below w.heap.size w w' := by
  have HS := Lib.hid h
  have HL := Lib.hid hl
  have HN := Lib.hid hn
  clear h hl hn
  go_enter Try.func34, Try.ntmps34
  go_wp2_with fail
  go_loopw [8] (fun k wr => ∃ j : Nat, j ≤ n ∧ k = .int .i64 (j : Int) ∧ x ∉ l.take j ∧ Below w.heap.size w wr) (fun k _ => n - (intOf k).toNat)
  case atStart => exact ⟨0, Nat.zero_le _, rfl, by simp, Below.refl _ _⟩
  case round =>
    obtain ⟨j, hj, rfl, hx, hb⟩ := hrel
    have HX := Lib.hid hx
    have HB := Lib.hid hb
    clear hx hb
    by_cases hlt : j < n
    · obtain ⟨b1, o1, rfl, q1, x1⟩ := ints_ptr HS.out (by have := HL.out; omega)
      have y1 := ints_at (keepR HB.out x1) (i := j) (by have := HL.out; omega)
      have i0 : (0 : Int) ≤ (j : Int) := by omega
      have i1 : (j : Int) < (n : Int) := by omega
      have u1 : (j : Int) + 1 < 10000 := by have := HN.out; omega
      have HLT := Lib.hid hlt
      obtain ⟨z, hz⟩ : ∃ z, z = l.getD j 0 := ⟨_, rfl⟩
      rw [← hz] at y1
      have HZ := Lib.hid hz
      clear hlt q1 x1 hz
      by_cases he : x = z
      · have t1 : (x == z) = true := by simpa using he
        have hX : Hid (decide (0 ≤ (j : Int)) = decide (x ∈ l)) := by
          show _ = _
          rw [decide_eq_true (by omega)]
          refine (decide_eq_true ?_).symm
          rw [he, HZ.out, List.getD_eq_getElem?_getD, List.getElem?_eq_getElem (by have := HL.out; have := HLT.out; omega)]
          exact List.getElem_mem _
        clear he
        go_wp2_with fail
        go_ret
        exact ⟨_, rfl, hX.out, HB.out⟩
      · have t1 : (x == z) = false := by simpa using he
        have HE := Lib.hid (notin_take (by have := HL.out; have := HLT.out; omega) HX.out (by rw [← HZ.out]; exact he))
        clear he
        go_wp2_with fail
        go_roundw
        case rel => exact ⟨j + 1, HLT.out, by go_num, HE.out, HB.out⟩
        case measure => simp [intOf]; have := HLT.out; omega
    · obtain rfl : j = n := by omega
      have hX : Hid (decide ((0 : Int) ≤ -1) = decide (x ∈ l)) := by
        show _ = _
        rw [decide_eq_false (by omega)]
        refine (decide_eq_false ?_).symm
        have := HX.out
        rwa [List.take_of_length_le (by have := HL.out; omega)] at this
      clear hlt
      go_wp2_with fail
      go_ret
      exact ⟨_, rfl, hX.out, HB.out⟩
theorem enters_indexInt : ∀ args w, (callFunc 34 args).run Try.prog w = .ok (.enter 34 args) w := entersE Try.func34 (by kernel_rfl) (by kernel_rfl)

set_option maxRecDepth 100000 in
set_option maxHeartbeats 4000000 in
theorem containsInt (v : Value) (l : List Int) (x : Int) (w : World) (h : SlE Eint w v l) (hn : l.length ≤ 1000) :
    Calls Try.prog 25 #[v, .int .i64 x] w fun e w' => e = .returned (.bool (decide (x ∈ l))) ∧ Below w.heap.size w w' := by
  obtain ⟨p, cp, rfl, _⟩ := slE_shape h
  obtain ⟨n, hl⟩ : ∃ n, l.length = n := ⟨_, rfl⟩
  rw [hl] at h hn ⊢
  have HC := Lib.hid (indexInt p n cp l x w h hl hn)
  obtain ⟨res, hres⟩ : ∃ res, res = decide (x ∈ l) := ⟨_, rfl⟩
  rw [← hres]
  rw [← hres] at HC
  clear h hl hn hres
  go_enter Try.func25, Try.ntmps25
  go_wp2_with fail
  refine HC.out.mono ?_
  rintro e w1 ⟨r, rfl, hr, g⟩
  have G := Lib.hid g
  have HR := Lib.hid hr
  obtain ⟨q, hq⟩ : ∃ q, q = decide (0 ≤ r) := ⟨_, rfl⟩
  have t1 : decide (0 ≤ r) = q := hq.symm
  have HQ : Hid (q = res) := hq.trans hr
  clear g hr hq HR
  go_wp2_with fail
  go_ret
  exact ⟨by rw [← HQ.out]; first | done | rfl, G.out⟩
theorem enters_containsInt : ∀ args w, (callFunc 25 args).run Try.prog w = .ok (.enter 25 args) w := entersE Try.func25 (by kernel_rfl) (by kernel_rfl)
end Go.Proofs.Ytanoijcgkacnmaa
