/-
  Package view: places, walked whatever it is handed; leaves and what it hands on; Leaf.
-/
import Derived.Test.YtanoijcgkacnmaaGQ
import Derived.Test.YtanoijcgkacnmaaSelP
import Derived.Test.YtanoijcgkacnmaaIntC
import Derived.Test.YtanoijcgkacnmaaW10
namespace Go.Proofs.Ytanoijcgkacnmaa
open Go.RowKit

set_option maxRecDepth 100000 in
set_option maxHeartbeats 4000000 in
theorem viewPlaces (g : Nat) (lb : Array Value) (eg : ∀ args w, (callFunc g args).run Try.prog w = .ok (.enter g args) w) (pr : Nat → Bool) (p : Option Addr) (n cp : Nat) (l : List Nd) (w : World) (h : SlE Ene w (.slice p n cp) l) (hl : l.length = n) (hn : n ≤ 1000)
    (hp : ∀ (k : Nat) (W : World), k < n → Below w.heap.size w W → Calls Try.prog g (#[.int .i64 (k : Int), .agg (ne (nd l k))] ++ lb) W fun e W' => e = .returned (.bool (pr k)) ∧ Below W.heap.size W W') :
    Calls Try.prog 31 #[.slice p n cp, .func (.func g) #[] lb] w (IntsIs (selI pr n) w) := by
  have HS := Lib.hid h
  have HL := Lib.hid hl
  have HN := Lib.hid hn
  have HP := Lib.hid hp
  clear h hl hn hp
  go_enter Try.func31, Try.ntmps31
  go_wp2_with fail
  go_loopw [5, 10] (fun v k wr => ∃ j : Nat, j ≤ n ∧ k = .int .i64 (j : Int) ∧ OwnE Eint wr w.heap.size v (selI pr j) ∧ Below w.heap.size w wr) (fun _ k _ => n - (intOf k).toNat)
  case atStart => exact ⟨0, Nat.zero_le _, rfl, ownE_nil _ _ _, Below.refl _ _⟩
  case round =>
    obtain ⟨j, hj, rfl, hown, hb⟩ := hrel
    have HO := Lib.hid hown
    have HB := Lib.hid hb
    clear hown hb
    by_cases hlt : j < n
    · obtain ⟨b1, o1, rfl, q1, x1⟩ := slE_ptr HS.out (by have := HL.out; omega)
      have y1 := nds_ld (keepR HB.out x1) (i := j) (by have := HL.out; omega)
      have i0 : (0 : Int) ≤ (j : Int) := by omega
      have i1 : (j : Int) < (n : Int) := by omega
      have u1 : (j : Int) + 1 < 10000 := by have := HN.out; omega
      have HLT := Lib.hid hlt
      obtain ⟨W1, hW1⟩ : ∃ W1, W1 = wr.alloc (.cells (ne (nd l j)) 43) := ⟨_, rfl⟩
      have B1 : Hid (Below w.heap.size w W1) := by rw [hW1]; exact belowT HB.out below1
      have O1 := Lib.hid (ownE_alloc HO.out (.cells (ne (nd l j)) 43))
      rw [← hW1] at O1
      have HQ := Lib.hid (HP.out j W1 hlt B1.out)
      have HW := Lib.hid hW1
      obtain ⟨x, hx⟩ : ∃ x, x = nd l j := ⟨_, rfl⟩
      rw [← hx] at y1 HQ HW
      obtain ⟨r, hr⟩ : ∃ r, r = pr j := ⟨_, rfl⟩
      rw [← hr] at HQ
      have HR := Lib.hid hr.symm
      clear hlt q1 x1 hx hr hW1
      go_wp2_with fail
      rw [← HW.out]
      refine HQ.out.mono ?_
      rintro e w2 ⟨rfl, g2⟩
      have G2 := Lib.hid (belowT B1.out g2)
      have O2 := Lib.hid (ownE_keep g2 O1.out)
      have HLn := Lib.hid (selI_len pr j)
      clear g2 y1
      cases r
      · have HE := Lib.hid (selI_no HR.out)
        go_wp2_with fail
        go_roundw
        case rel => exact ⟨j + 1, HLT.out, by go_num, by rw [HE.out]; exact O2.out, G2.out⟩
        case measure => simp [intOf]; have := HLT.out; omega
      · have HE := Lib.hid (selI_yes HR.out)
        go_wp2_with (at_builtin; refine wpList_append_E Kint _ rfl (.tmp 19) (.tmp 21) rfl w.heap.size _ (selI pr j) rfl (ownE_alloc O2.out _) _ [(j : Int)] rfl (slE_lit _ [(j : Int)] 1 _ _ _ rfl (by simp) rfl) (by have := HLn.out; have := HN.out; have := HLT.out; simp; omega) (by have := G2.out.size; simp; omega) ?_; intro v2 w3 ho3 hg3)
        go_roundw
        case rel => exact ⟨j + 1, HLT.out, by go_num, by rw [HE.out]; exact ho3, (belowT G2.out below1).trans (hg3.own (ownE_alloc O2.out _) (by have := G2.out.size; simp; omega))⟩
        case measure => simp [intOf]; have := HLT.out; omega
    · obtain rfl : j = n := by omega
      clear hlt
      go_wp2_with fail
      go_ret
      exact ⟨_, rfl, HO.out, HB.out⟩
end Go.Proofs.Ytanoijcgkacnmaa
