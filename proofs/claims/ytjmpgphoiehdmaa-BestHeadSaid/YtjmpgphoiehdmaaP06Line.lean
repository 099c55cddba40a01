/-
  Package tree: line, and the function that it hands on: whatever loop ranges over it.
-/
import Derived.Test.YtjmpgphoiehdmaaP06Place
import Derived.Test.YtjmpgphoiehdmaaLineT
import Derived.Test.YtjmpgphoiehdmaaLeave
namespace Go.Proofs.Ytjmpgphoiehdmaa
open Go.RowKit Go.Shelf

attribute [local go_sem] Oper.semAt_some

set_option maxRecDepth 100000 in
set_option maxHeartbeats 1000000 in
/-- line: the tree and the place are boxed; what is handed on captures both. -/
theorem treeLine (t : Tr) (i : Int) (w : World) :
    Calls Try.prog 33 #[.agg (tr t), .int .i64 i] w fun e w' => e = .returned (.func (.func 37) #[] #[.pointer (some ⟨w.heap.size + 1, 0, none⟩), .pointer (some ⟨w.heap.size, 0, none⟩)]) ∧ w' = (w.alloc (.cells (tr t) 24)).alloc (.cells #[.int .i64 i] 3) := by
  go_enter Try.func33, Try.ntmps33
  go_wp2_with fail
  go_ret
  exact ⟨rfl, rfl⟩

/-- The places on a node's line. -/
abbrev Ln (l : List Nd) (i : Nat) := { x : Nat // x ∈ lineT l i }
set_option maxRecDepth 100000 in
set_option maxHeartbeats 4000000 in
theorem line_stops (F : Fence) (d : Nat) (hf : F.fn 37) (hro : F.round = none) (hd : 1 ≤ d) (bi bt b1 o1 n cp n₀ : Nat) (l : List Nd) (i : Nat) (w : World) (hm : MayT l) (hl : l.length = n) (hi : i < n)
    (hbi : w.cell? ⟨bi, 0, none⟩ = some (.int .i64 (i : Int))) (hbt : w.heap[bt]? = some (.cells (tr ⟨⟨some ⟨b1, o1, none⟩, n, cp⟩⟩) 24 (0, 0))) (hx : w.rangeAt b1 o1 (cellsE Ene l))
    (h1 : bi < n₀) (h2 : bt < n₀) (h3 : b1 < n₀) (hn₀ : n₀ ≤ w.heap.size) :
    SeqStopsK F d Try.prog 37 #[.pointer (some ⟨bi, 0, none⟩), .pointer (some ⟨bt, 0, none⟩)] (fun x : Ln l i => #[Value.int .i64 (x.1 : Int)]) (Below n₀) (fun ys => ys.map Subtype.val = lineT l i) (fun pre => pre.map Subtype.val <+: lineT l i) (lineT l i).length w := by
  intro lo J Jx W hW _ _ hY hJ0
  have HL := Lib.hid hl
  have HM := Lib.hid hm
  have HI := Lib.hid hi
  have HY := Lib.hid hY
  have HJ0 := Lib.hid hJ0
  have g0 := hW.mono hn₀
  have HC : Hid (∀ W', Below n₀ W W' → W'.cell? ⟨bi, 0, none⟩ = some (.int .i64 (i : Int))) := fun W' g => ((g0.trans g).cell (p := ⟨bi, 0, none⟩) h1).trans hbi
  have HT : Hid (∀ W', Below n₀ W W' → W'.heap[bt]? = some (.cells (tr ⟨⟨some ⟨b1, o1, none⟩, n, cp⟩⟩) 24 (0, 0))) := fun W' g => ((g0.trans g).block _ h2).trans hbt
  have HR : Hid (∀ W', Below n₀ W W' → W'.rangeAt b1 o1 (cellsE Ene l)) := fun W' g j v hv => ((g0.trans g).cell (p := ⟨b1, o1 + j, none⟩) h3).trans (hx j v hv)
  have z00 := HC.out W (Below.refl _ _)
  clear hl hm hi hY hJ0 hbi hbt hx h1 h2 h3 hn₀ hW g0
  refine callsIn_of_wp Try.func37 rfl hf ?_ hro
  simp only [Try.ntmps37, List.size_toArray, List.length_cons, List.length_nil, Nat.reduceAdd, Nat.reduceSub, Array.replicate_succ, Array.replicate_zero, List.push_toArray, List.append_toArray, List.nil_append, List.cons_append]
  gi_wp2
  gi_loopw [4] (fun v wr => ∃ (pre : List (Ln l i)) (m : Nat), m ≤ n ∧ v = .int .i64 ((m : Int) - 1) ∧ lineT l i = pre.map Subtype.val ++ (if m = 0 then [] else lineT l (m - 1)) ∧ Below n₀ W wr ∧ J pre wr) (fun v _ => (intOf v + 1).toNat)
  case atStart => exact ⟨[], i + 1, HI.out, by rw [show ((i + 1 : Nat) : Int) - 1 = (i : Int) by omega], by rw [if_neg (Nat.succ_ne_zero _), Nat.add_sub_cancel, List.map_nil, List.nil_append], Below.refl _ _, HJ0.out⟩
  case round =>
    obtain ⟨pre, m, hmn, rfl, he, hg, hj⟩ := hrel
    have HE := Lib.hid he
    have HG := Lib.hid hg
    have HJ := Lib.hid hj
    have HMN := Lib.hid hmn
    clear he hg hj hmn
    by_cases h0 : m = 0
    · subst h0
      have HE' : Hid (pre.map Subtype.val = lineT l i) := by show _ = _; have := HE.out; rw [if_pos rfl, List.append_nil] at this; exact this.symm
      rw [show (((0 : Nat) : Int) - 1) = -1 from rfl]
      gi_wp2
      go_end0
      exact ⟨⟨_, rfl⟩, .inl ⟨pre, HE'.out, HJ.out⟩⟩
    · obtain ⟨k, rfl⟩ : ∃ k, m = k + 1 := ⟨m - 1, by omega⟩
      rw [show (((k + 1 : Nat) : Int) - 1) = (k : Int) by omega]
      have HE' : Hid (lineT l i = pre.map Subtype.val ++ lineT l k) := HE.out.trans (by rw [if_neg h0, Nat.add_sub_cancel])
      have HK : Hid (k < n) := HMN.out
      have HC' : Hid (lineT l k = k :: (if k = 0 then [] else lineT l (up l k))) := line_cons HM.out (by have := HL.out; have := HK.out; omega)
      have HIN : Hid (k ∈ lineT l i) := by show k ∈ lineT l i; rw [HE'.out, HC'.out]; simp
      have t0 : ((k : Int) != -1) = true := by simp
      have u1 : (k : Int) < (n : Int) := by have := HK.out; omega
      have u2 : (0 : Int) ≤ (k : Int) := by omega
      obtain ⟨fn, tmps, assign, body, hy, hR⟩ := HY.out pre ⟨k, HIN.out⟩ wr HJ.out (by rw [HE'.out, List.length_append, HC'.out]; simp)
      have HRR := Lib.hid hR
      clear h0 HE HMN hR
      gi_wp2
      refine HRR.out.mono ?_
      rintro e W3 (⟨rfl, hJ3, hk3⟩ | ⟨rfl, hJx3⟩)
      · have HG3 := Lib.hid (HG.out.trans hk3)
        have HJ3 := Lib.hid hJ3
        obtain ⟨z0, z1, zl⟩ := tr_cells (HT.out W3 HG3.out)
        dsimp only at z0
        rw [sv_mk] at z0
        have y1 := nds_par (HR.out W3 HG3.out) (i := k) (by have := HL.out; have := HK.out; omega)
        clear hJ3 hk3
        by_cases hk : k = 0
        · subst hk
          rw [HM.out.first, Nat.zero_mul, Nat.add_zero] at y1
          gi_wp2
          go_roundw
          case rel => exact ⟨pre ++ [⟨0, HIN.out⟩], 0, Nat.zero_le _, rfl, HE'.out.trans (by rw [HC'.out]; simp), HG3.out, HJ3.out⟩
          case measure => simp [intOf]
        · obtain ⟨hp, hu, _⟩ := HM.out.par (k := k) (by omega) (by have := HL.out; have := HK.out; omega)
          rw [hp] at y1
          have HU := Lib.hid hu
          have HK0 := Lib.hid hk
          clear hp hu hk
          gi_wp2
          go_roundw
          case rel => exact ⟨pre ++ [⟨k, HIN.out⟩], up l k + 1, by have := HU.out; have := HK.out; omega, by rw [show ((up l k + 1 : Nat) : Int) - 1 = (up l k : Int) by omega], HE'.out.trans (by rw [HC'.out, if_neg HK0.out, if_neg (Nat.succ_ne_zero _), Nat.add_sub_cancel, List.map_append, List.append_assoc]; rfl), HG3.out, HJ3.out⟩
          case measure => have := HU.out; simp [intOf]; omega
      · have HJ3 := Lib.hid hJx3
        clear hJx3
        gi_wp2
        refine bodyPost_ret (results_none rfl _ _ _) rfl ?_
        exact ⟨⟨_, rfl⟩, .inr ⟨pre ++ [⟨k, HIN.out⟩], ⟨if k = 0 then [] else lineT l (up l k), (HE'.out.trans (by rw [HC'.out, List.map_append, List.append_assoc]; rfl)).symm⟩, HJ3.out⟩⟩
end Go.Proofs.Ytjmpgphoiehdmaa
