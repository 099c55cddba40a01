/-
  The law RingParts, walked.
-/
import Derived.Test.YtmcnpefnebehfaaRingR
namespace Go.Proofs.Ytmcnpefnebehfaa
open Go.RowKit

theorem ints_is (v u : Value) (l k : List Int) (r : Bool) (w : World) (h : SlI w v l) (h' : SlI w u k) (hn : l.length ≤ 1000) (hr : decide (l = k) = r) :
    Calls Try.prog 19 #[v, u] w fun e w' => e = .returned (.bool r) ∧ Below w.heap.size w w' := by
  subst hr; exact ints_any v u l k w h h' hn
theorem same_is (c d : Int) (v u : Value) (l k : List Int) (r : Bool) (w : World) (h : SlI w v l) (h' : SlI w u k) (hn : l.length ≤ 1000) (hr : (decide (l = k) && decide (c = d)) = r) :
    Calls Try.prog 18 #[.agg #[.int .i64 c, v], .agg #[.int .i64 d, u]] w fun e w' => e = .returned (.bool r) ∧ Below w.heap.size w w' := by
  subst hr; exact refSame_any c d v u l k w h h' hn
theorem toldL_len (c : Int) (l ns : List Int) : (toldL c l ns).length = ns.length := toldL_length c l ns
theorem run_len {c : Int} {l : List Int} (ns : List Int) (h : mayB c l = true) : (runL c l ns).length ≤ 8 := may_len (run_may ns h)

set_option maxRecDepth 100000 in
set_option maxHeartbeats 1000000 in
theorem ringParts_no (c : Int) (p : Option Addr) (cap n : Nat) (l : List Int) (va vb : Value) (w : World) (hn : l.length = n) (hm : mayB c l = false) :
    Calls Try.prog 6 #[.agg #[.int .i64 c, .slice p n cap], va, vb] w fun e w' => e = .returned (.bool true) ∧ Below w.heap.size w w' := by
  have HC := Lib.hid (fun W => may_is c p n cap l false W hn hm)
  have M0 : Hid ((w.alloc (rgO c (.slice p n cap))).heap[w.heap.size]? = some (rgO c (.slice p n cap))) := heap_alloc_last w _
  clear hn hm
  go_enter Try.func6, Try.ntmps6
  go_wp2_with fail
  refine (awake_any _).mono ?_
  rintro e w1 ⟨rfl, g1⟩
  obtain ⟨x0, x1, _, _, xl⟩ := cells2 (blk_keep g1 M0.out)
  go_wp2_with fail
  refine (HC.out _).mono ?_
  rintro e w2 ⟨rfl, g2⟩
  go_wp2_with fail
  go_ret
  exact ⟨rfl, belowT (belowT below1 g1) g2⟩

set_option maxRecDepth 100000 in
set_option maxHeartbeats 1000000 in
theorem ringParts_long (c : Int) (p : Option Addr) (cap n : Nat) (l : List Int) (pa pb : Option Addr) (ca cb na nb : Nat) (w : World) (hn : l.length = n) (hm : mayB c l = true) (hl : 100 < na ∨ 100 < nb) :
    Calls Try.prog 6 #[.agg #[.int .i64 c, .slice p n cap], .slice pa na ca, .slice pb nb cb] w fun e w' => e = .returned (.bool true) ∧ Below w.heap.size w w' := by
  have HC := Lib.hid (fun W => may_is c p n cap l true W hn hm)
  have M0 : Hid ((w.alloc (rgO c (.slice p n cap))).heap[w.heap.size]? = some (rgO c (.slice p n cap))) := heap_alloc_last w _
  have HL := Lib.hid hl
  clear hn hm hl
  by_cases h1 : 100 < na
  · have z1 : decide ((100 : Int) < (na : Int)) = true := by simp; omega
    go_enter Try.func6, Try.ntmps6
    go_wp2_with fail
    refine (awake_any _).mono ?_
    rintro e w1 ⟨rfl, g1⟩
    obtain ⟨x0, x1, _, _, xl⟩ := cells2 (blk_keep g1 M0.out)
    go_wp2_with fail
    refine (HC.out _).mono ?_
    rintro e w2 ⟨rfl, g2⟩
    go_wp2_with fail
    go_ret
    exact ⟨rfl, belowT (belowT below1 g1) g2⟩
  · have z1 : decide ((100 : Int) < (na : Int)) = false := by simp; omega
    have z2 : decide ((100 : Int) < (nb : Int)) = true := by have := HL.out; simp; omega
    go_enter Try.func6, Try.ntmps6
    go_wp2_with fail
    refine (awake_any _).mono ?_
    rintro e w1 ⟨rfl, g1⟩
    obtain ⟨x0, x1, _, _, xl⟩ := cells2 (blk_keep g1 M0.out)
    go_wp2_with fail
    refine (HC.out _).mono ?_
    rintro e w2 ⟨rfl, g2⟩
    go_wp2_with fail
    go_ret
    exact ⟨rfl, belowT (belowT below1 g1) g2⟩
end Go.Proofs.Ytmcnpefnebehfaa
