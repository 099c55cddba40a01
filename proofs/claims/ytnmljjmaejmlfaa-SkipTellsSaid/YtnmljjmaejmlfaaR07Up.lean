/-
  The document's leaps: so many steps up, walked.
-/
import Derived.Test.YtnmljjmaejmlfaaR07Is
import Derived.Test.YtnmljjmaejmlfaaSkipZ
namespace Go.Proofs.Ytnmljjmaejmlfaa
open Go.RowKit

/-- Where the loop stands. -/
def UpAt (l : List Nd) (res : Int) (k : Nat) (c : Int) : Prop := (c = -1 ∧ res = -1) ∨ ∃ x : Nat, c = x ∧ x < l.length ∧ upT l k x = res
theorem UpAt.step {l : List Nd} (h : MayT l) {res : Int} {k x : Nat} (hx : x < l.length) (e : upT l (k + 1) x = res) : UpAt l res k (nd l x).parent ∧ (nd l x).parent < x ∧ -1 ≤ (nd l x).parent := by
  by_cases h0 : x = 0
  · subst h0
    rw [h.first]
    refine ⟨.inl ⟨rfl, ?_⟩, by omega, by omega⟩
    rw [← e]; rfl
  · obtain ⟨e1, e2, _⟩ := h.par (Nat.pos_of_ne_zero h0) hx
    rw [e1]
    refine ⟨.inr ⟨up l x, rfl, by omega, ?_⟩, by omega, by omega⟩
    rw [← e]
    show _ = if x = 0 then -1 else upT l k (up l x)
    rw [if_neg h0]

set_option maxRecDepth 100000 in
set_option maxHeartbeats 4000000 in
theorem ref07Up (s : SlV) (l : List Nd) (i m : Int) (w : World) (h : SlE Ene w (sv s) l) (hn : l.length ≤ 1000) (hm : m ≤ 9223372036854775807) :
    Calls Try.prog 14 #[.agg (tr ⟨s⟩), .int .i64 i, .int .i64 m] w fun e w' => e = .returned (.int .i64 (upZ l i m)) ∧ Below w.heap.size w w' := by
  have HI := Lib.hid (fun W (g : Below w.heap.size w W) => ref07Is s l i W (slE_keep g h) hn)
  have HL := Lib.hid (sv_lenN h)
  obtain ⟨p, n, cp⟩ := s
  dsimp only at HL
  obtain ⟨a, ha⟩ : ∃ a, a = isT l i := ⟨_, rfl⟩
  rw [← ha] at HI
  obtain ⟨res, hres⟩ : ∃ res, res = upZ l i m := ⟨_, rfl⟩
  rw [← hres]
  obtain ⟨W0, hW0⟩ : ∃ W0, W0 = w.alloc (.cells (tr ⟨⟨p, n, cp⟩⟩) 24) := ⟨_, rfl⟩
  have HB : Hid (Below w.heap.size w W0) := by rw [hW0]; exact below1
  have M0 : Hid (W0.heap[w.heap.size]? = some (.cells (tr ⟨⟨p, n, cp⟩⟩) 24 (0, 0))) := by rw [hW0]; exact heap_alloc_last w _
  have HS := Lib.hid h
  have HW := Lib.hid hW0
  have HA := Lib.hid ha
  have HR := Lib.hid hres
  have HM2 := Lib.hid hm
  clear hW0 h ha hres hm hn
  go_enter Try.func14, Try.ntmps14
  go_wp2_with fail
  rw [← HW.out]
  refine (HI.out W0 HB.out).mono ?_
  rintro e w1 ⟨rfl, g1⟩
  have G1 := Lib.hid (belowT HB.out g1)
  have M1 := Lib.hid (blk_keep g1 M0.out)
  clear g1
  cases a
  · have hX : Hid (res = -1) := by show _ = _; rw [HR.out]; exact upZ_not (.inl HA.out.symm)
    go_wp2_with fail
    go_ret
    exact ⟨by rw [hX.out]; first | done | rfl, G1.out⟩
  · by_cases h0 : m < 0
    · have t0 : decide (m < 0) = true := decide_eq_true h0
      have hX : Hid (res = -1) := by show _ = _; rw [HR.out]; exact upZ_not (.inr h0)
      clear h0
      go_wp2_with fail
      go_ret
      exact ⟨by rw [hX.out]; first | done | rfl, G1.out⟩
    · obtain ⟨k0, rfl⟩ : ∃ k0 : Nat, m = k0 := ⟨m.toNat, by omega⟩
      have t0 : decide ((k0 : Int) < 0) = false := decide_eq_false h0
      obtain ⟨hmay, hi0, hi1⟩ := isT_iff.1 HA.out.symm
      obtain ⟨i', rfl⟩ : ∃ i' : Nat, i = i' := ⟨i.toNat, by omega⟩
      have HMm := Lib.hid hmay
      have HN : Hid (n ≤ 12) := by show n ≤ 12; have := hmay.le; have := HL.out; omega
      have hst : UpAt l res k0 (i' : Int) := .inr ⟨i', rfl, by omega, by rw [HR.out, upZ_nat hmay (by omega)]⟩
      have HST := Lib.hid hst
      have HK0 : Hid ((k0 : Int) ≤ 9223372036854775807) := HM2.out
      obtain ⟨b1, o1, rfl, q1, x1⟩ := slE_ptr HS.out hmay.pos
      have X1 := Lib.hid (keepR G1.out x1)
      clear h0 hmay hi0 hi1 hst q1 x1
      go_wp2_with fail
      go_loopw [1, 2] (fun c k wr => ∃ (j : Nat) (x : Int), j ≤ k0 ∧ k = .int .i64 (j : Int) ∧ c = .int .i64 x ∧ -1 ≤ x ∧ x < n ∧ UpAt l res j x ∧ Below w1.heap.size w1 wr) (fun c _ _ => (intOf c + 1).toNat)
      case atStart => exact ⟨k0, (i' : Int), Nat.le_refl _, rfl, rfl, by omega, by have h1 := (isT_iff.1 HA.out.symm).2.2; have := HL.out; omega, HST.out, Below.refl _ _⟩
      case round =>
        obtain ⟨j, x, hj, rfl, rfl, hx0, hx1, hat, hb⟩ := hrel
        have HAT := Lib.hid hat
        have HBB := Lib.hid hb
        obtain ⟨z0, z1, zl⟩ := tr_cells (blk_keep hb M1.out)
        dsimp only at z0
        rw [sv_mk] at z0
        have HJ := Lib.hid hj
        clear hat hb hj
        by_cases hj0 : 0 < j
        · obtain ⟨j', rfl⟩ : ∃ j', j = j' + 1 := ⟨j - 1, by omega⟩
          have t1 : decide ((0 : Int) < ((j' + 1 : Nat) : Int)) = true := decide_eq_true (by omega)
          have t1' : decide (0 < j' + 1) = true := decide_eq_true hj0
          have u1 : (j' : Int) + 1 ≤ 9223372036854775807 := by have := HK0.out; have := HJ.out; omega
          by_cases hxn : 0 ≤ x
          · obtain ⟨x', rfl⟩ : ∃ x' : Nat, x = x' := ⟨x.toNat, by omega⟩
            have t2 : decide ((0 : Int) ≤ (x' : Int)) = true := decide_eq_true hxn
            have i1 : (x' : Int) < (n : Int) := hx1
            have y1 := nds_par (keepR HBB.out X1.out) (i := x') (by have := HL.out; omega)
            have hs : upT l (j' + 1) x' = res := by
              rcases HAT.out with ⟨h1, _⟩ | ⟨y, h1, _, h3⟩
              · omega
              · obtain rfl : x' = y := by omega
                exact h3
            obtain ⟨h1, h2, h3⟩ := UpAt.step HMm.out (by have := HL.out; omega) hs
            obtain ⟨v, hv⟩ : ∃ v, v = (nd l x').parent := ⟨_, rfl⟩
            rw [← hv] at y1 h1 h2 h3
            have HU := Lib.hid h1
            have HU2 : Hid (v < x') := h2
            have HU3 : Hid (-1 ≤ v) := h3
            clear hv h1 h2 h3 hs hj0
            go_wp2_with fail
            go_roundw
            case rel => exact ⟨j', v, by have := HJ.out; omega, by go_num, rfl, HU3.out, by have := HU2.out; omega, HU.out, HBB.out⟩
            case measure => simp [intOf]; have := HU2.out; have := HU3.out; omega
          · have t2 : decide ((0 : Int) ≤ x) = false := decide_eq_false hxn
            have hX : Hid (res = x) := by
              show _ = _
              rcases HAT.out with ⟨h1, h2⟩ | ⟨y, h1, _⟩
              · rw [h1, h2]
              · omega
            clear hxn hj0
            go_wp2_with fail
            go_ret
            exact ⟨by rw [hX.out]; first | done | rfl, belowT G1.out HBB.out⟩
        · obtain rfl : j = 0 := by omega
          have hX : Hid (res = x) := by
            show _ = _
            rcases HAT.out with ⟨h1, h2⟩ | ⟨y, h1, _, h3⟩
            · rw [h1, h2]
            · rw [h1, ← h3, upT_zero]
          clear hj0
          go_wp2_with fail
          go_ret
          exact ⟨by rw [hX.out]; first | done | rfl, belowT G1.out HBB.out⟩
end Go.Proofs.Ytnmljjmaejmlfaa
