/-
  Package ring: list, walked.
-/
import Derived.Test.YtmcnpefnebehfaaRingC
namespace Go.Proofs.Ytmcnpefnebehfaa
open Go.RowKit

set_option maxRecDepth 100000 in
set_option maxHeartbeats 1000000 in
theorem list_any (b : Nat) (l : List Int) (c : Nat) (w : World) (h : Que w b l c) :
    Calls Try.prog 31 #[.pointer (some ⟨b, 0, none⟩)] w (SlIs l w) := by
  have hlt := h.lt
  obtain ⟨pl, f, h1, h2, h3, h4, h5, h6⟩ := h
  have c9 : w.cell? ⟨b, 9, none⟩ = some (.int .i64 (l.length : Int)) := by rw [cell_of_row _ _ _ _ _ _ h5, qc_n h1]
  have c8 : w.cell? ⟨b, 8, none⟩ = some (.int .i64 (f : Int)) := by rw [cell_of_row _ _ _ _ _ _ h5, qc_f h1]
  have cp : ∀ j, j < l.length → w.cell? ⟨b, (f + j) % 8, none⟩ = some (.int .i64 (it l j)) := fun j hj => by
    rw [cell_of_row _ _ _ _ _ _ h5, qc_pl _ _ _ _ (by omega), h6 j hj]
  have hmk := fun W => make_ints l.length (by omega) W
  have H8 : Hid (l.length ≤ 8) := Nat.le_trans h3 h4
  have HO0 : Hid (OwnI (w.alloc (.cells (madeI l.length) 3)) w.heap.size (.slice (some ⟨w.heap.size, 0, none⟩) 0 l.length) []) := ownI_made w l.length (by omega) _ rfl
  have HB0 : Hid (Below w.heap.size w (w.alloc (.cells (madeI l.length) 3))) := (Below.refl w.heap.size w).alloc (Nat.le_refl _) _
  have HC8 := Lib.hid c8
  have HP := Lib.hid cp
  have HF := Lib.hid h2
  clear h1 h2 h3 h4 h5 h6 c8 cp
  go_enter Try.func31, Try.ntmps31
  go_wp2_with fail
  clear hmk c9
  go_loopw [3, 14] (fun v1 i wr => ∃ j : Nat, j ≤ l.length ∧ i = .int .i64 j ∧ OwnI wr w.heap.size v1 (l.take j) ∧ Below w.heap.size w wr) (fun _ i _ => l.length - (intOf i).toNat)
  case atStart => exact ⟨0, Nat.zero_le _, rfl, by simpa using HO0.out, HB0.out⟩
  case round =>
    obtain ⟨j, hj, rfl, ho, hb⟩ := hrel
    have HO := Lib.hid ho
    have HB := Lib.hid hb
    clear ho hb
    by_cases hlj : j < l.length
    · have u1 : (j : Int) + 1 < 100 := by have := H8.out; omega
      obtain ⟨k, hk⟩ : ∃ k, k = (f + j) % 8 := ⟨_, rfl⟩
      have i0 : (0 : Int) ≤ (k : Int) := by omega
      have i1 : (k : Int) < 8 := by omega
      have ck : wr.cell? ⟨b, k, none⟩ = some (.int .i64 (it l j)) := (HB.out.cell (p := ⟨b, k, none⟩) hlt).trans (by rw [hk]; exact HP.out j hlj)
      have HPL : Hid (Calls Try.prog 29 #[.pointer (some ⟨b, 0, none⟩), .int .i64 (j : Int)] wr.drew fun e w' => e = .returned (.int .i64 (k : Int)) ∧ wr.drew = w') := by
        rw [hk]
        exact place_any b f j wr.drew HF.out (by have := H8.out; omega) ((HB.out.cell (p := ⟨b, 8, none⟩) hlt).trans HC8.out)
      have HT := Lib.hid (take_snocI l j hlj)
      have HL : Hid ((l.take j).length + 1 ≤ 1000000) := by show _ ≤ _; rw [List.length_take]; omega
      have HZ : Hid (w.heap.size ≤ wr.heap.size) := HB.out.size
      clear hk
      go_wp2_with fail
      go_region_law (first
        | (refine step_callI _ rfl rfl enters_place #[.pointer (some ⟨b, 0, none⟩), .int .i64 (j : Int)] rfl ?_; refine HPL.out.mono ?_; rintro e w1 ⟨rfl, rfl⟩; refine ⟨_, rfl, ?_⟩)
        | (refine step_append_ints _ rfl (.tmp 17) (.tmp 26) rfl w.heap.size _ _ rfl (ownI_alloc (ownI_drew HO.out) _) _ [it l j] rfl (slI_lit _ [it l j] _ _ _ rfl rfl) HL.out (by have := HZ.out; simp; omega) ?_; intro v3 w3 ho3 hg3))
      all_goals
        have HO3 := Lib.hid ho3
        have HG3 : Hid (GrI wr u3 w3 v3) := (GrI.drew hg3).alloc
        clear ho3 hg3
        go_wp2_with fail
        go_roundw
        case rel => exact ⟨j + 1, by omega, by go_num, by rw [HT.out]; exact HO3.out, HB.out.trans (HG3.out.own HO.out HZ.out)⟩
        case measure => simp [intOf]; omega
    · obtain rfl : j = l.length := by omega
      go_wp2_with fail
      go_ret
      exact ⟨_, rfl, by have := HO.out; rwa [List.take_length] at this, HB.out⟩
theorem enters_list : ∀ args w, (callFunc 31 args).run Try.prog w = .ok (.enter 31 args) w := entersI Try.func31 (by kernel_rfl) (by kernel_rfl)
end Go.Proofs.Ytmcnpefnebehfaa
