/-
  The law StakeCommon, walked. (written by wip/gen/law11.py)
-/
import Derived.Test.YtjjncaojicjfjaaW11
namespace Go.Proofs.Ytjjncaojicjfjaa
open Go.RowKit

set_option maxRecDepth 100000 in
set_option maxHeartbeats 8000000 in
theorem stakeCommon_n (H : StakeC) (q : Option Addr) (n c : Nat) (l : List UInt64) (a : UInt64) (b : UInt64) (w : World) (h : SlE Enum w (.slice q n c) l) (hl : l.length = n) :
    Calls Try.prog 4 #[.slice q n c, .int .u64 (a.toNat : Int), .int .u64 (b.toNat : Int)] w fun e w' => e = .returned (.bool true) ∧ Below w.heap.size w w' := by
  have A : Hid (Bw w w (.slice q n c) l) := ⟨h, Below.refl _ _⟩
  have HL := Lib.hid hl
  have HAw := Lib.hid (fun W => awake_any11 H W)
  have H := Lib.hid H
  clear h hl
  go_enter Try.func4, Try.ntmps4
  go_wp2_with fail
  refine (HAw.out _).mono ?_
  rintro e w1 ⟨rfl, g⟩
  replace A := Lib.hid (A.out.keep g)
  clear g
  have HA := Lib.hid (fun W (g : SlE Enum W (.slice q n c) l) => H.out.most _ l a W g)
  have HB := Lib.hid (fun W (g : SlE Enum W (.slice q n c) l) => H.out.most _ l b W g)
  have HC := Lib.hid (fun W (g : SlE Enum W (.slice q n c) l) => H.out.some _ l (a &&& b) W g)
  have hla := fun h1 h2 => lawS_common (l := l) (a := a) (b := b) h1 h2
  have hand := m_and a b
  generalize mostS l a = y1 at *
  generalize mostS l b = y2 at *
  generalize someS l (a &&& b) = y3 at *
  generalize (a &&& b).toNat = r at *
  have HLa := Lib.hid hla
  clear hla
  go_wp2_with fail
  refine (HA.out _ A.out.s).mono ?_
  rintro e w2 ⟨rfl, g⟩
  replace A := Lib.hid (A.out.keep g)
  clear g
  cases y1
  · skip
    go_wp2_with fail
    go_ret
    exact ⟨rfl, A.out.g⟩
  go_wp2_with fail
  refine (HB.out _ A.out.s).mono ?_
  rintro e w3 ⟨rfl, g⟩
  replace A := Lib.hid (A.out.keep g)
  clear g
  cases y2
  · skip
    go_wp2_with fail
    go_ret
    exact ⟨rfl, A.out.g⟩
  obtain rfl := HLa.out (by simp) (by simp)
  go_wp2_with fail
  refine (HC.out _ A.out.s).mono ?_
  rintro e w4 ⟨rfl, g⟩
  replace A := Lib.hid (A.out.keep g)
  clear g
  go_wp2_with fail
  go_ret
  exact ⟨rfl, A.out.g⟩
/-- The law. -/
theorem stakeCommonL (H : StakeC) (vs : Value) (l : List UInt64) (a : UInt64) (b : UInt64) (w : World) (h : SlE Enum w vs l) :
    Calls Try.prog 4 #[vs, .int .u64 (a.toNat : Int), .int .u64 (b.toNat : Int)] w fun e w' => e = .returned (.bool true) ∧ Below w.heap.size w w' := by
  have k := h
  obtain ⟨q, c, rfl, _⟩ := slE_shape h
  exact stakeCommon_n H q _ c l a b w k rfl
end Go.Proofs.Ytjjncaojicjfjaa
