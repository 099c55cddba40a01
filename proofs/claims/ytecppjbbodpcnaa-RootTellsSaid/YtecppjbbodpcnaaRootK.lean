/-
  The law RootSorts, walked.
-/
import Derived.Test.YtecppjbbodpcnaaRootI
namespace Go.Proofs.Ytecppjbbodpcnaa
open Go.RowKit

/-- Is a root among the first k of a list? -/
def memB (l : List Rt) (k : Nat) (a : Rt) : Bool := (l.take k).any fun x => eqB x a
theorem memB_zero (l : List Rt) (a : Rt) : memB l 0 a = false := by simp [memB]
theorem memB_succ (l : List Rt) (k : Nat) (a : Rt) (h : k < l.length) : memB l (k + 1) a = (memB l k a || eqB l[k] a) := by
  unfold memB
  rw [List.take_succ_eq_append_getElem h, List.any_append]
  simp
theorem memB_mem (l : List Rt) (a : Rt) : memB l l.length a = decide (a ∈ l) := by
  unfold memB
  rw [List.take_length, Bool.eq_iff_iff, List.any_eq_true, decide_eq_true_iff]
  constructor
  · rintro ⟨x, hx, h⟩
    have : x = a := by simpa [eqB] using h
    rwa [← this]
  · intro h
    exact ⟨a, h, by simp [eqB]⟩
theorem memB_srt (l : List Rt) (a : Rt) : memB l l.length a = memB (srt l) (srt l).length a := by
  rw [memB_mem, memB_mem, decide_eq_decide, srt_mem]
/-- A list of roots that is not empty lies somewhere. -/
theorem slR_ne {w : World} {v : Value} {l : List Rt} (h : SlR w v l) (hn : l ≠ []) : ∃ b off cap, v = .slice (some ⟨b, off, none⟩) l.length cap ∧ ∀ i (h : i < l.length), ldA w (.pointer (some ⟨b, off + i * 32, none⟩)) 32 = some (rc l[i]) := by
  obtain ⟨p, cap, rfl, h⟩ := h
  obtain ⟨b, off, rfl, _, h3⟩ := h.resolve_left hn
  exact ⟨b, off, cap, rfl, h3⟩
theorem srt_ne {l : List Rt} (h : l ≠ []) : srt l ≠ [] := by
  obtain ⟨x, hx⟩ := List.exists_mem_of_ne_nil l h
  exact List.ne_nil_of_mem ((srt_mem l x).2 hx)
theorem rising_at {l : List Rt} (h : Rising l) (k : Nat) (hk : k + 1 < l.length) : lessR l[k] l[k + 1] = true := List.pairwise_iff_getElem.1 h k (k + 1) (by omega) hk (by omega)
theorem slR_keep {W w1 : World} (g : Below W.heap.size W w1) {v : Value} {l : List Rt} (h : SlR W v l) : SlR w1 v l := by
  obtain ⟨p, cap, rfl, h⟩ := h
  refine ⟨p, cap, rfl, ?_⟩
  rcases h with h | ⟨b, off, h1, h2, h3⟩
  · exact .inl h
  · exact .inr ⟨b, off, h1, Nat.lt_of_lt_of_le h2 g.size, fun i hi => keep g (h3 i hi)⟩

set_option maxRecDepth 100000 in
set_option maxHeartbeats 4000000 in
theorem rootSorts_ne (b off cap : Nat) (l : List Rt) (a : Rt) (w : World) (hn : l ≠ []) (hlt0 : b < w.heap.size) (hl : ∀ i (h : i < l.length), ldA w (.pointer (some ⟨b, off + i * 32, none⟩)) 32 = some (rc l[i])) (hlen : l.length ≤ 100) :
    Calls Try.prog 6 #[.slice (some ⟨b, off, none⟩) l.length cap, .agg (rc a)] w fun e w' => e = .returned (.bool true) ∧ Below w.heap.size w w' := by
  have hz : decide ((100 : Int) < (l.length : Int)) = false := by simp; omega
  have cs := fun W v h => sort_any v l W h (by omega)
  have hle := srt_le l
  have HSR := Lib.hid (srt_rising l)
  have HMS := Lib.hid (memB_srt l a)
  have HNE := Lib.hid (srt_ne hn)
  have HL : Hid (SlR w (.slice (some ⟨b, off, none⟩) l.length cap) l) := Lib.hid ⟨_, _, rfl, .inr ⟨_, _, rfl, hlt0, hl⟩⟩
  clear hl hn hlt0
  go_enter Try.func6, Try.ntmps6
  go_wp2_with fail
  refine (awake_any _).mono ?_
  rintro e w0 ⟨rfl, g0⟩
  have a0 : ldA w0 (.pointer (some ⟨w.heap.size, 0, none⟩)) 32 = some (rc a) := keep g0 (by go_simp)
  have HL0 := Lib.hid (slR_keep g0 (slR_keep (belowA (Below.refl _ _) _) HL.out))
  go_wp2_with fail
  refine (cs _ _ HL0.out).mono ?_
  rintro e w1 ⟨v, rfl, hs, g1⟩
  have a1 := keep g1 a0
  have HL1 := Lib.hid (slR_keep g1 HL0.out)
  have GG := Lib.hid (belowT (belowT (belowA (Below.refl _ _) _) g0) g1)
  clear a0 HL0 HL g0 g1 cs
  obtain ⟨b', off', cap', rfl, hs'⟩ := slR_ne hs HNE.out
  have HS := Lib.hid hs'; clear hs' hs HNE
  generalize srt l = m at *
  have H1 : Hid (∀ i (h : i < l.length), ldA w1 (.pointer (some ⟨b, off + i * 32, none⟩)) 32 = some (rc l[i])) := by
    intro i h
    obtain ⟨p, c, e, h2⟩ := HL1.out
    injection e with e1 e2 e3
    rcases h2 with h2 | ⟨b2, o2, e4, _, h5⟩
    · rw [h2] at h; simp at h
    · rw [e4] at e1
      injection e1 with e1
      injection e1 with e5 e6 e7
      rw [e5, e6]
      exact h5 i h
  clear HL1
  go_wp2_with fail
  go_loopw [7, 9] (fun m i wr => ∃ (k : Nat) (B : Bool), k ≤ l.length ∧ i = .int .i64 k ∧ m = .bool B ∧ B = memB l k a ∧ Below w1.heap.size w1 wr) (fun _ i _ => l.length - (intOf i).toNat)
  case atStart => exact ⟨0, false, Nat.zero_le _, rfl, rfl, (memB_zero l a).symm, Below.refl _ _⟩
  case round =>
    obtain ⟨k, B, hk, rfl, rfl, hB, hb⟩ := hrel
    by_cases hlt : k < l.length
    · have i0 : (0 : Int) ≤ (k : Int) := by omega
      have i1 : (k : Int) < (l.length : Int) := by omega
      have HM := Lib.hid (memB_succ l k a hlt)
      have HB := Lib.hid hB; clear hB
      cases B
      · have lw := fun p : Wd wr => ldA_wd (keep hb (H1.out k hlt)) (by decide) p
        have aw := fun p : Wd wr => ldA_wd (keep hb a1) (by decide) p
        go_wp2_with fail
        refine wp_region_grown (by kernel_rfl) (by kernel_rfl) ?_
        repeat (first | go_big_quiet_step (fail) | quiet_step (fail))
        refine wpQuiet_nil ?_
        rintro w5 ⟨⟨_, g5⟩, rfl⟩
        go_wp2_with fail
        go_roundw
        case rel => exact ⟨k + 1, _, by omega, by go_num, rfl, by rw [HM.out, ← HB.out]; rfl, hb.trans (g5.mono hb.size)⟩
        case measure => simp [intOf]; omega
      · go_wp2_with fail
        refine wp_region_grown (by kernel_rfl) (by kernel_rfl) ?_
        repeat (first | go_big_quiet_step (fail) | quiet_step (fail))
        refine wpQuiet_nil ?_
        rintro w5 ⟨⟨_, g5⟩, rfl⟩
        go_wp2_with fail
        go_roundw
        case rel => exact ⟨k + 1, _, by omega, by go_num, rfl, by rw [HM.out, ← HB.out]; rfl, hb.trans (g5.mono hb.size)⟩
        case measure => simp [intOf]; omega
    · obtain rfl : k = l.length := by omega
      have HB := Lib.hid hB; clear hB
      go_wp2_with fail
      go_loopw [8, 10] (fun q i wr2 => ∃ (k : Nat) (C : Bool), k ≤ m.length ∧ i = .int .i64 k ∧ q = .bool C ∧ C = memB m k a ∧ Below w1.heap.size w1 wr2) (fun _ i _ => m.length - (intOf i).toNat)
      case atStart => exact ⟨0, false, Nat.zero_le _, rfl, rfl, (memB_zero m a).symm, hb⟩
      case round =>
        obtain ⟨k, C, hk2, rfl, rfl, hC, hb2⟩ := hrel
        by_cases hlt : k < m.length
        · have i0 : (0 : Int) ≤ (k : Int) := by omega
          have i1 : (k : Int) < (m.length : Int) := by omega
          have HM := Lib.hid (memB_succ m k a hlt)
          have HC := Lib.hid hC; clear hC
          have lw := fun p : Wd wr => ldA_wd (keep hb2 (HS.out k hlt)) (by decide) p
          have aw := fun p : Wd wr => ldA_wd (keep hb2 a1) (by decide) p
          by_cases h0 : k = 0
          · have d0 : decide (0 < k) = false := by simp; omega
            clear h0
            cases C
            all_goals
              go_wp2_with fail
              refine wp_region_grown (by kernel_rfl) (by kernel_rfl) ?_
              repeat (first | go_big_quiet_step (fail) | quiet_step (fail))
              refine wpQuiet_nil ?_
              rintro w5 ⟨⟨_, g5⟩, rfl⟩
              have hb5 := hb2.trans (g5.mono hb2.size)
              go_wp2_with fail
              refine wp_region_grown (by kernel_rfl) (by kernel_rfl) ?_
              repeat (first | go_big_quiet_step (fail) | quiet_step (fail))
              refine wpQuiet_nil ?_
              rintro w6 ⟨⟨_, g6⟩, rfl⟩
              go_wp2_with fail
              go_roundw
              case rel => exact ⟨k + 1, _, by omega, by go_num, rfl, by rw [HM.out, ← HC.out]; rfl, hb5.trans (g6.mono hb5.size)⟩
              case measure => simp [intOf]; omega
          · have d0 : decide (0 < k) = true := by simp; omega
            have hk1 : 1 ≤ k := by omega
            clear h0
            have hr := rising_at HSR.out (k - 1) (by omega)
            have cl := fun W => less_b (m[k - 1]'(by omega)) (m[k]'(by omega)) W
            have hrk : lessR (m[k - 1]'(by omega)) (m[k]'(by omega)) = true := by
              have e : k - 1 + 1 = k := by omega
              simp only [e] at hr
              exact hr
            rw [hrk] at cl
            clear hr hrk
            have L1 := Lib.hid (keep hb2 (HS.out (k - 1) (by omega)))
            have L2 := Lib.hid (keep hb2 (HS.out k hlt))
            have j0 : (0 : Int) ≤ (k : Int) - 1 := by omega
            have j1 : (k : Int) - 1 < (m.length : Int) := by omega
            have x1 : IntKind.i64.wrap ((k : Int) - 1) = (k : Int) - 1 := IntWalk.i64_in _ (by omega)
            have x2 : ((k : Int) - 1).toNat = k - 1 := by omega
            cases C
            all_goals
              go_wp2_with fail
              refine wp_region_grown (by kernel_rfl) (by kernel_rfl) ?_
              repeat (first | go_big_quiet_step (fail) | quiet_step (fail))
              refine wpQuiet_nil ?_
              rintro w5 ⟨⟨_, g5⟩, rfl⟩
              have hb5 := hb2.trans (g5.mono hb2.size)
              have l1 := fun p : Wd w5 => ldA_wd (keep g5 L1.out) (by decide) p
              have l2 := fun p : Wd w5 => ldA_wd (keep g5 L2.out) (by decide) p
              go_wp2_with fail
              refine wp_region_grown (by kernel_rfl) (by kernel_rfl) ?_
              repeat (first | go_big_quiet_step ((go_at_call 16; exact calls_wd (cl _))) | quiet_step ((go_at_call 16; exact calls_wd (cl _))))
              refine wpQuiet_nil ?_
              rintro w6 ⟨⟨_, g6⟩, rfl⟩
              go_wp2_with fail
              go_roundw
              case rel => exact ⟨k + 1, _, by omega, by go_num, rfl, by rw [HM.out, ← HC.out]; rfl, hb5.trans (g6.mono hb5.size)⟩
              case measure => simp [intOf]; omega
        · obtain rfl : k = m.length := by omega
          have e : B = C := by rw [HB.out, hC, HMS.out]
          subst e
          have HG := Lib.hid (GG.out.trans (hb2.mono GG.out.size))
          go_wp2_with fail
          go_ret
          exact ⟨rfl, HG.out⟩

set_option maxRecDepth 100000 in
set_option maxHeartbeats 4000000 in
theorem rootSorts_nil (p : Option Addr) (cap : Nat) (a : Rt) (w : World) :
    Calls Try.prog 6 #[.slice p 0 cap, .agg (rc a)] w fun e w' => e = .returned (.bool true) ∧ Below w.heap.size w w' := by
  have cs : ∀ W, Calls Try.prog 14 #[.slice p 0 cap] W fun e w' => ∃ q c, e = .returned (.slice q 0 c) ∧ Below W.heap.size W w' := fun W => by
    refine (sort_any (.slice p 0 cap) [] W (slR_nil _ _ _) (by simp)).mono ?_
    rintro e w' ⟨v, rfl, ⟨q, c, rfl, _⟩, g⟩
    exact ⟨q, c, by rw [srt_nil]; rfl, g⟩
  go_enter Try.func6, Try.ntmps6
  go_wp2_with fail
  refine (awake_any _).mono ?_
  rintro e w0 ⟨rfl, g0⟩
  go_wp2_with fail
  refine (cs _).mono ?_
  rintro e w1 ⟨q, c, rfl, g1⟩
  go_wp2_with fail
  refine wp_loop_rounds 1 ?_
  rw [rounds_succ]
  go_wp2_with fail
  refine wp_loop_rounds 1 ?_
  rw [rounds_succ]
  go_wp2_with fail
  go_ret
  exact ⟨rfl, belowT (belowT (belowA (Below.refl _ _) _) g0) g1⟩

set_option maxRecDepth 100000 in
set_option maxHeartbeats 4000000 in
theorem rootSorts_long (p : Option Addr) (n cap : Nat) (a : Rt) (hn : 100 < n) (w : World) :
    Calls Try.prog 6 #[.slice p n cap, .agg (rc a)] w fun e w' => e = .returned (.bool true) ∧ Below w.heap.size w w' := by
  have hz : decide ((100 : Int) < (n : Int)) = true := by simp; omega
  go_enter Try.func6, Try.ntmps6
  go_wp2_with fail
  refine (awake_any _).mono ?_
  rintro e w0 ⟨rfl, g0⟩
  go_wp2_with fail
  go_ret
  exact ⟨rfl, belowT (belowA (Below.refl _ _) _) g0⟩
theorem rootSorts_walk (v : Value) (l : List Rt) (a : Rt) (w : World) (hl : SlR w v l) :
    Calls Try.prog 6 #[v, .agg (rc a)] w fun e w' => e = .returned (.bool true) ∧ Below w.heap.size w w' := by
  obtain ⟨p, cap, rfl, h⟩ := hl
  by_cases hn : l = []
  · subst hn
    exact rootSorts_nil p cap a w
  · by_cases h1 : 100 < l.length
    · exact rootSorts_long p l.length cap a h1 w
    · obtain ⟨b, off, rfl, hb, hc⟩ := h.resolve_left hn
      exact rootSorts_ne b off cap l a w hn hb hc (by omega)
end Go.Proofs.Ytecppjbbodpcnaa
