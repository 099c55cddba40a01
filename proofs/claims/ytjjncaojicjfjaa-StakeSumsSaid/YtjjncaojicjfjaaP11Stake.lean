/-
  Package stake: Most, Some, and all of it.
-/
import Derived.Test.YtjjncaojicjfjaaP11Who
import Derived.Test.YtjjncaojicjfjaaP01Most
namespace Go.Proofs.Ytjjncaojicjfjaa
open Go.RowKit

set_option maxHeartbeats 1000000 in
theorem stakeMost : StMostC := fun v l mask w h => by
  have HM := Lib.hid (stakeMay v l w h)
  have HO := Lib.hid (fun W (g : Below w.heap.size w W) => stakeOf v l mask W (slE_keep g h))
  have HT := Lib.hid (fun W (g : Below w.heap.size w W) => stakeTotal v l W (slE_keep g h))
  have HX := Lib.hid (fun W => numMost (ofS l mask) (totS l) (by have : ofS l mask ≤ 8796093022208 := ofS_lt; omega) (by have : totS l ≤ 8796093022208 := ofS_lt; omega) W)
  obtain ⟨m, hm⟩ : ∃ m, m = (mask.toNat : Int) := ⟨_, rfl⟩
  rw [← hm] at HO
  rw [← hm]
  have he : mostS l mask = (mayB l && mostN (ofS l mask) (totS l)) := rfl
  rw [he]
  generalize mostN (ofS l mask) (totS l) = r at *
  generalize ofS l mask = o at *
  generalize totS l = t at *
  generalize mayB l = b at *
  clear h hm he
  go_enter Try.func21, Try.ntmps21
  go_wp2_with fail
  refine HM.out.mono ?_
  rintro e w1 ⟨rfl, g1⟩
  have G1 := Lib.hid g1
  clear g1
  cases b
  · go_wp2_with fail
    go_ret
    exact ⟨by cases r <;> rfl, G1.out⟩
  go_wp2_with fail
  refine (HO.out _ G1.out).mono ?_
  rintro e w2 ⟨rfl, g⟩
  have G2 := Lib.hid (belowT G1.out g)
  clear g
  go_wp2_with fail
  refine (HT.out _ G2.out).mono ?_
  rintro e w3 ⟨rfl, g⟩
  have G3 := Lib.hid (belowT G2.out g)
  clear g
  go_wp2_with fail
  refine (HX.out _).mono ?_
  rintro e w4 ⟨rfl, g⟩
  have G4 := Lib.hid (belowT G3.out g)
  clear g
  cases r <;> (
    go_wp2_with fail
    go_ret
    exact ⟨rfl, G4.out⟩)
theorem enters_stakeMost : ∀ args w, (callFunc 21 args).run Try.prog w = .ok (.enter 21 args) w := entersE Try.func21 (by kernel_rfl) (by kernel_rfl)

set_option maxHeartbeats 1000000 in
theorem stakeSome : StSomeC := fun v l mask w h => by
  have HM := Lib.hid (stakeMay v l w h)
  have HO := Lib.hid (fun W (g : Below w.heap.size w W) => stakeOf v l mask W (slE_keep g h))
  have HT := Lib.hid (fun W (g : Below w.heap.size w W) => stakeTotal v l W (slE_keep g h))
  have HX := Lib.hid (fun W => numSome (ofS l mask) (totS l) (by have : ofS l mask ≤ 8796093022208 := ofS_lt; omega) (by have : totS l ≤ 8796093022208 := ofS_lt; omega) W)
  obtain ⟨m, hm⟩ : ∃ m, m = (mask.toNat : Int) := ⟨_, rfl⟩
  rw [← hm] at HO
  rw [← hm]
  have he : someS l mask = (mayB l && someN (ofS l mask) (totS l)) := rfl
  rw [he]
  generalize someN (ofS l mask) (totS l) = r at *
  generalize ofS l mask = o at *
  generalize totS l = t at *
  generalize mayB l = b at *
  clear h hm he
  go_enter Try.func22, Try.ntmps22
  go_wp2_with fail
  refine HM.out.mono ?_
  rintro e w1 ⟨rfl, g1⟩
  have G1 := Lib.hid g1
  clear g1
  cases b
  · go_wp2_with fail
    go_ret
    exact ⟨by cases r <;> rfl, G1.out⟩
  go_wp2_with fail
  refine (HO.out _ G1.out).mono ?_
  rintro e w2 ⟨rfl, g⟩
  have G2 := Lib.hid (belowT G1.out g)
  clear g
  go_wp2_with fail
  refine (HT.out _ G2.out).mono ?_
  rintro e w3 ⟨rfl, g⟩
  have G3 := Lib.hid (belowT G2.out g)
  clear g
  go_wp2_with fail
  refine (HX.out _).mono ?_
  rintro e w4 ⟨rfl, g⟩
  have G4 := Lib.hid (belowT G3.out g)
  clear g
  cases r <;> (
    go_wp2_with fail
    go_ret
    exact ⟨rfl, G4.out⟩)
theorem enters_stakeSome : ∀ args w, (callFunc 22 args).run Try.prog w = .ok (.enter 22 args) w := entersE Try.func22 (by kernel_rfl) (by kernel_rfl)

theorem stakeC : StakeC := ⟨stakeMay, stakeTotal, stakeOf, stakeMost, stakeSome, stakeBit, stakeWho⟩
end Go.Proofs.Ytjjncaojicjfjaa
