/-
  The document's leaps: where two meet, walked.
-/
import Derived.Test.YtnmljjmaejmlfaaR06Above
import Derived.Test.YtnmljjmaejmlfaaSkipZ
namespace Go.Proofs.Ytnmljjmaejmlfaa
open Go.RowKit

theorem meetZ_at {l : List Nd} {a b : Int} {k : Nat} (hk : k < l.length) (h : (aboveZ l (k : Int) a && aboveZ l (k : Int) b) = true) (hn : ∀ i, k < i → i < l.length → (aboveZ l (i : Int) a && aboveZ l (i : Int) b) = false) : meetZ l a b = k := by
  rw [Bool.and_eq_true] at h
  have ha : isT l a = true := by have h1 := h.1; unfold aboveZ at h1; rw [Bool.and_eq_true, Bool.and_eq_true] at h1; exact h1.1.2
  have hb : isT l b = true := by have h1 := h.2; unfold aboveZ at h1; rw [Bool.and_eq_true, Bool.and_eq_true] at h1; exact h1.1.2
  obtain ⟨hm, a0, a1⟩ := isT_iff.1 ha
  obtain ⟨_, b0, b1⟩ := isT_iff.1 hb
  obtain ⟨a', rfl⟩ : ∃ a' : Nat, a = a' := ⟨a.toNat, by omega⟩
  obtain ⟨b', rfl⟩ : ∃ b' : Nat, b = b' := ⟨b.toNat, by omega⟩
  rw [meetZ_nat hm (by omega) (by omega)]
  have e : ∀ i, i < l.length → bothB l a' b' i = (aboveZ l (i : Int) (a' : Int) && aboveZ l (i : Int) (b' : Int)) := fun i hi => by
    unfold bothB
    rw [aboveZ_nat hm hi (by omega), aboveZ_nat hm hi (by omega)]
  have hkk : bothB l a' b' k = true := by rw [e k hk, h.1, h.2]; rfl
  unfold meetT
  rcases meetF_spec (l := l) a' b' l.length with ⟨_, hno⟩ | ⟨m, e1, hml, hmb, hmax⟩
  · rw [hno k hk] at hkk; cases hkk
  · have h1 := hmax k hk hkk
    rw [e1]
    by_cases h2 : k < m
    · have := hn m h2 hml
      rw [← e m hml, hmb] at this
      cases this
    · have : k = m := by omega
      rw [this]
theorem meetZ_none {l : List Nd} {a b : Int} (hn : ∀ i, i < l.length → (aboveZ l (i : Int) a && aboveZ l (i : Int) b) = false) : meetZ l a b = -1 := by
  by_cases hab : isT l a = true ∧ isT l b = true
  · obtain ⟨hm, a0, a1⟩ := isT_iff.1 hab.1
    obtain ⟨_, b0, b1⟩ := isT_iff.1 hab.2
    obtain ⟨a', rfl⟩ : ∃ a' : Nat, a = a' := ⟨a.toNat, by omega⟩
    obtain ⟨b', rfl⟩ : ∃ b' : Nat, b = b' := ⟨b.toNat, by omega⟩
    rw [meetZ_nat hm (by omega) (by omega)]
    unfold meetT
    rcases meetF_spec (l := l) a' b' l.length with ⟨e, _⟩ | ⟨m, _, hml, hmb, _⟩
    · exact e
    · have := hn m hml
      unfold bothB at hmb
      rw [aboveZ_nat hm hml (by omega), aboveZ_nat hm hml (by omega), hmb] at this
      cases this
  · unfold meetZ
    rw [if_neg hab]

set_option maxRecDepth 100000 in
set_option maxHeartbeats 4000000 in
theorem ref07Meet (s : SlV) (l : List Nd) (a b : Int) (w : World) (h : SlE Ene w (sv s) l) (hn : l.length ≤ 1000) :
    Calls Try.prog 20 #[.agg (tr ⟨s⟩), .int .i64 a, .int .i64 b] w fun e w' => e = .returned (.int .i64 (meetZ l a b)) ∧ Below w.heap.size w w' := by
  have HV := Lib.hid (fun W (g : Below w.heap.size w W) (i k : Int) => refAbove s l i k W (slE_keep g h) hn)
  have HL := Lib.hid (sv_lenN h)
  have HN := Lib.hid hn
  obtain ⟨p, n, cp⟩ := s
  dsimp only at HL
  obtain ⟨res, hres⟩ : ∃ res, res = meetZ l a b := ⟨_, rfl⟩
  rw [← hres]
  obtain ⟨W0, hW0⟩ : ∃ W0, W0 = w.alloc (.cells (tr ⟨⟨p, n, cp⟩⟩) 24) := ⟨_, rfl⟩
  have HB : Hid (Below w.heap.size w W0) := by rw [hW0]; exact below1
  have M0 : Hid (W0.heap[w.heap.size]? = some (.cells (tr ⟨⟨p, n, cp⟩⟩) 24 (0, 0))) := by rw [hW0]; exact heap_alloc_last w _
  have HW := Lib.hid hW0
  have HR := Lib.hid hres
  have u0 : (n : Int) < 10000 := by have := HL.out; omega
  clear hW0 h hres hn
  go_enter Try.func20, Try.ntmps20
  go_wp2_with fail
  rw [← HW.out]
  go_loopw [7] (fun i wr => ∃ (k : Nat) (c : Int), k ≤ n ∧ c = (k : Int) - 1 ∧ i = .int .i64 c ∧ (∀ i, k ≤ i → i < l.length → (aboveZ l (i : Int) a && aboveZ l (i : Int) b) = false) ∧ wr.heap[w.heap.size]? = some (.cells (tr ⟨⟨p, n, cp⟩⟩) 24 (0, 0)) ∧ Below w.heap.size w wr) (fun i _ => (intOf i + 1).toNat)
  case atStart => exact ⟨n, (n : Int) - 1, Nat.le_refl _, rfl, rfl, fun i h1 h2 => by have := HL.out; omega, M0.out, HB.out⟩
  case round =>
    obtain ⟨k, c, hk, hc, rfl, hno, hm, hb⟩ := hrel
    have HNO := Lib.hid hno
    have HMM := Lib.hid hm
    have HBB := Lib.hid hb
    obtain ⟨z0, z1, zl⟩ := tr_cells HMM.out
    dsimp only at z0
    rw [sv_mk] at z0
    have HK := Lib.hid hk
    clear hno hm hb hk
    by_cases h0 : k = 0
    · subst h0
      obtain rfl : c = -1 := by omega
      have hX : Hid (res = -1) := by show _ = _; rw [HR.out]; exact meetZ_none fun i hi => HNO.out i (Nat.zero_le _) hi
      clear hc
      go_wp2_with fail
      go_ret
      exact ⟨by rw [hX.out]; first | done | rfl, HBB.out⟩
    · obtain ⟨k', rfl⟩ : ∃ k', k = k' + 1 := ⟨k - 1, by omega⟩
      obtain rfl : c = (k' : Int) := by omega
      have t0 : decide ((0 : Int) ≤ (k' : Int)) = true := decide_eq_true (by omega)
      have u1 : (k' : Int) < 10000 := by have := HK.out; omega
      have A1 := Lib.hid (fun W g => HV.out W g (k' : Int) a)
      have A2 := Lib.hid (fun W g => HV.out W g (k' : Int) b)
      obtain ⟨r1, hr1⟩ : ∃ r, r = aboveZ l (k' : Int) a := ⟨_, rfl⟩
      obtain ⟨r2, hr2⟩ : ∃ r, r = aboveZ l (k' : Int) b := ⟨_, rfl⟩
      rw [← hr1] at A1
      rw [← hr2] at A2
      have HR1 := Lib.hid hr1
      have HR2 := Lib.hid hr2
      clear hc h0 hr1 hr2
      go_wp2_with fail
      refine (A1.out wr HBB.out).mono ?_
      rintro e w2 ⟨rfl, g2⟩
      have B2 := Lib.hid (belowT HBB.out g2)
      have M2 := Lib.hid (blk_keep g2 HMM.out)
      clear g2 z0 z1 zl
      obtain ⟨z0, z1, zl⟩ := tr_cells M2.out
      go_wp2_with fail
      refine (A2.out w2 B2.out).mono ?_
      rintro e w3 ⟨rfl, g3⟩
      have B3 := Lib.hid (belowT B2.out g3)
      have M3 := Lib.hid (blk_keep g3 M2.out)
      clear g3 z0 z1 zl
      have hNX : (r1 && r2) = false → ∀ i, k' ≤ i → i < l.length → (aboveZ l (i : Int) a && aboveZ l (i : Int) b) = false := fun hf i h1 h2 => by
        by_cases e : i = k'
        · subst e; rw [← HR1.out, ← HR2.out]; exact hf
        · exact HNO.out i (by omega) h2
      have HNX := Lib.hid hNX
      clear hNX
      cases r1
      · go_wp2_with fail
        go_roundw
        case rel => exact ⟨k', (k' : Int) - 1, by have := HK.out; omega, rfl, by go_num, HNX.out rfl, M3.out, B3.out⟩
        case measure => simp [intOf]
      · cases r2
        · go_wp2_with fail
          go_roundw
          case rel => exact ⟨k', (k' : Int) - 1, by have := HK.out; omega, rfl, by go_num, HNX.out rfl, M3.out, B3.out⟩
          case measure => simp [intOf]
        · have hX : Hid (res = (k' : Int)) := by
            show _ = _
            rw [HR.out]
            exact meetZ_at (by have := HK.out; have := HL.out; omega) (by rw [← HR1.out, ← HR2.out]; rfl) fun i h1 h2 => HNO.out i h1 h2
          go_wp2_with fail
          go_ret
          exact ⟨by rw [hX.out]; first | done | rfl, B3.out⟩
end Go.Proofs.Ytnmljjmaejmlfaa
