/-
  Package late: isBeyond, slices.IndexFunc and ContainsFunc of attestations, May; walked.
-/
import Derived.Test.YtljehgohcchocaaLateM
import Derived.Deep.Cut
import Derived.Laws.Cover3
namespace Go.Proofs.Ytljehgohcchocaa
open Go.RowKit
set_option maxRecDepth 100000

def beyA (x : Aa) : Bool := decide (1099511627776 < x.slot.toNat)

set_option maxRecDepth 100000 in
set_option maxHeartbeats 1000000 in
theorem lateBeyond (x : Aa) (w : World) : Calls Try.prog 20 #[.agg (aa x)] w fun e w' => e = .returned (.bool (beyA x)) ∧ Below w.heap.size w w' := by
  obtain ⟨W, hW⟩ : ∃ W, W = w.alloc (.cells (aa x) 29) := ⟨_, rfl⟩
  have hx : W.heap[w.heap.size]? = some (.cells (aa x) 29 (0, 0)) := by rw [hW]; exact heap_alloc_last w _
  have HB : Hid (Below w.heap.size w W) := by rw [hW]; exact below1
  have z := aa_rd0_slot hx
  unfold num at z
  obtain ⟨b, hb⟩ : ∃ b, b = beyA x := ⟨_, rfl⟩
  rw [← hb]
  obtain ⟨y, hy⟩ : ∃ y, y = x.slot.toNat := ⟨_, rfl⟩
  rw [← hy] at z
  have t0 : decide ((1099511627776 : Int) < (y : Int)) = b := by rw [hb]; unfold beyA; rw [← hy]; exact decide_eq_decide.2 (by omega)
  have t1 : decide (1099511627776 < y) = b := by rw [hb]; unfold beyA; rw [← hy]
  have HW := Lib.hid hW
  clear hx hW hb hy
  go_enter Try.func20, Try.ntmps20
  go_upto_region 1 with fail
  rw [← HW.out]
  go_wp2_with fail
  go_ret
  exact ⟨by first | rfl | simp [t1], HB.out⟩
theorem enters_lateBeyond : ∀ args w, (callFunc 20 args).run Try.prog w = .ok (.enter 20 args) w := entersE Try.func20 (by kernel_rfl) (by kernel_rfl)

/-- The first place at which it is so, or -1. -/
structure FirstAt (pr : Nat → Bool) (n : Nat) (i : Int) : Prop where
  none : i < 0 → ∀ j, j < n → pr j = false
  some : 0 ≤ i → ∃ j, j < n ∧ pr j = true

set_option maxRecDepth 100000 in
set_option maxHeartbeats 4000000 in
theorem indexAa (g : Nat) (lb : Array Value) (eg : ∀ args w, (callFunc g args).run Try.prog w = .ok (.enter g args) w) (pr : Nat → Bool) (p : Option Addr) (n cp : Nat) (l : List Aa) (w : World) (h : SlE Eaa w (.slice p n cp) l) (hl : l.length = n) (hn : n ≤ 1000)
    (hp : ∀ (k : Nat) (W : World), k < n → Below w.heap.size w W → Calls Try.prog g (#[.agg (aa (att l k))] ++ lb) W fun e W' => e = .returned (.bool (pr k)) ∧ Below W.heap.size W W') :
    Calls Try.prog 25 #[.slice p n cp, .func (.func g) #[] lb] w fun e w' => (∃ i, e = .returned (.int .i64 i) ∧ FirstAt pr n i) ∧ Below w.heap.size w w' := by
  have HS := Lib.hid h
  have HL := Lib.hid hl
  have HN := Lib.hid hn
  have HP := Lib.hid hp
  clear h hl hn hp
  go_enter Try.func25, Try.ntmps25
  go_wp2_with fail
  go_loopw [5, 8] (fun _ k wr => ∃ j : Nat, j ≤ n ∧ k = .int .i64 (j : Int) ∧ (∀ x, x < j → pr x = false) ∧ Below w.heap.size w wr) (fun _ k _ => n - (intOf k).toNat)
  case atStart => exact ⟨0, Nat.zero_le _, rfl, fun x hx => absurd hx (Nat.not_lt_zero _), Below.refl _ _⟩
  case round =>
    obtain ⟨j, hj, rfl, hx, hb⟩ := hrel
    have HX := Lib.hid hx
    have HB := Lib.hid hb
    clear hx hb
    by_cases hlt : j < n
    · obtain ⟨b1, o1, rfl, q1, x1⟩ := atts_ptr HS.out (by have := HL.out; omega)
      have y1 := atts_ld (keepR HB.out x1) (i := j) (by have := HL.out; omega)
      have i0 : (0 : Int) ≤ (j : Int) := by omega
      have i1 : (j : Int) < (n : Int) := by omega
      have u1 : (j : Int) + 1 < 10000 := by have := HN.out; omega
      have HLT := Lib.hid hlt
      have HQ := Lib.hid (HP.out j wr hlt HB.out)
      obtain ⟨x, hx⟩ : ∃ x, x = att l j := ⟨_, rfl⟩
      rw [← hx] at y1 HQ
      obtain ⟨r, hr⟩ : ∃ r, r = pr j := ⟨_, rfl⟩
      rw [← hr] at HQ
      have HR := Lib.hid hr.symm
      clear hlt q1 x1 hx hr
      go_wp2_with fail
      refine HQ.out.mono ?_
      rintro e w2 ⟨rfl, g2⟩
      have G2 := Lib.hid (belowT HB.out g2)
      clear g2 y1
      cases r
      · go_wp2_with fail
        go_roundw
        case rel => exact ⟨j + 1, HLT.out, by go_num, (fun x hx => by
          rcases Nat.lt_succ_iff_lt_or_eq.1 hx with h | rfl
          · exact HX.out x h
          · exact HR.out), G2.out⟩
        case measure => simp [intOf]; have := HLT.out; omega
      · go_wp2_with fail
        go_ret
        exact ⟨⟨_, rfl, ⟨fun h => absurd h (by omega), fun _ => ⟨j, HLT.out, HR.out⟩⟩⟩, G2.out⟩
    · obtain rfl : j = n := by omega
      clear hlt
      go_wp2_with fail
      go_ret
      exact ⟨⟨_, rfl, ⟨fun _ => HX.out, fun h => absurd h (by omega)⟩⟩, HB.out⟩
theorem enters_indexAa : ∀ args w, (callFunc 25 args).run Try.prog w = .ok (.enter 25 args) w := entersE Try.func25 (by kernel_rfl) (by kernel_rfl)

/-- Is one beyond? -/
def anyBey (l : List Aa) : Bool := l.any beyA
theorem anyBey_no {l : List Aa} (h : ∀ j, j < l.length → beyA (att l j) = false) : anyBey l = false := by
  unfold anyBey
  rw [List.any_eq_false]
  intro x hx
  obtain ⟨i, hi, rfl⟩ := List.getElem_of_mem hx
  have := h i hi
  rw [att_in hi] at this
  simp [this]
theorem anyBey_yes {l : List Aa} {j : Nat} (hj : j < l.length) (h : beyA (att l j) = true) : anyBey l = true := by
  unfold anyBey
  rw [List.any_eq_true]
  rw [att_in hj] at h
  exact ⟨_, List.getElem_mem hj, h⟩
theorem mayA_any (l : List Aa) : mayA l = (decide (l.length ≤ 6) && !anyBey l) := by
  rw [Bool.eq_iff_iff, mayA_all, Bool.and_eq_true, decide_eq_true_iff, Bool.not_eq_true', anyBey, List.any_eq_false]
  refine and_congr Iff.rfl (forall_congr' fun x => forall_congr' fun _ => ?_)
  unfold beyA
  rw [decide_eq_true_iff]
  omega

set_option maxRecDepth 100000 in
set_option maxHeartbeats 1000000 in
theorem containsBey (p : Option Addr) (n cp : Nat) (l : List Aa) (w : World) (h : SlE Eaa w (.slice p n cp) l) (hl : l.length = n) (hn : n ≤ 1000) :
    Calls Try.prog 23 #[.slice p n cp, .func (.func 20) #[] #[]] w fun e w' => e = .returned (.bool (anyBey l)) ∧ Below w.heap.size w w' := by
  have HI := Lib.hid (indexAa 20 #[] enters_lateBeyond (fun k => beyA (att l k)) p n cp l w h hl hn (fun k W _ _ => lateBeyond _ W))
  have HL := Lib.hid hl
  clear h hl hn
  go_enter Try.func23, Try.ntmps23
  go_wp2_with fail
  refine HI.out.mono ?_
  rintro e w1 ⟨⟨i, rfl, hi⟩, g⟩
  by_cases h0 : 0 ≤ i
  · have t0 : decide ((0 : Int) ≤ i) = true := decide_eq_true h0
    have HF : Hid (anyBey l = true) := by
      obtain ⟨j, hj, e⟩ := hi.some h0
      exact anyBey_yes (by rw [HL.out]; exact hj) e
    have HG := Lib.hid g
    clear hi g
    go_wp2_with fail
    go_ret
    exact ⟨by rw [HF.out]; first | done | rfl, HG.out⟩
  · have t0 : decide ((0 : Int) ≤ i) = false := decide_eq_false h0
    have HF : Hid (anyBey l = false) := anyBey_no fun j hj => hi.none (by omega) j (by rw [← HL.out]; exact hj)
    have HG := Lib.hid g
    clear hi g h0
    go_wp2_with fail
    go_ret
    exact ⟨by rw [HF.out]; first | done | rfl, HG.out⟩

set_option maxRecDepth 100000 in
set_option maxHeartbeats 1000000 in
theorem latMayP_n (p : Option Addr) (n cp : Nat) (l : List Aa) (w : World) (h : SlE Eaa w (.slice p n cp) l) (hl : l.length = n) :
    Calls Try.prog 17 #[.slice p n cp] w fun e w' => e = .returned (.bool (mayA l)) ∧ Below w.heap.size w w' := by
  by_cases h6 : n ≤ 6
  · have HC := Lib.hid (containsBey p n cp l w h hl (by omega))
    have t0 : decide ((n : Int) ≤ 6) = true := decide_eq_true (by omega)
    have t1 : decide (n ≤ 6) = true := decide_eq_true h6
    rw [mayA_any, hl, t1, Bool.true_and]
    obtain ⟨r, hr⟩ : ∃ r, r = anyBey l := ⟨_, rfl⟩
    rw [← hr] at HC ⊢
    clear h hl hr h6
    go_enter Try.func17, Try.ntmps17
    go_wp2_with fail
    refine HC.out.mono ?_
    rintro e w1 ⟨rfl, g⟩
    go_wp2_with fail
    go_ret
    exact ⟨rfl, g⟩
  · have t0 : decide ((n : Int) ≤ 6) = false := decide_eq_false (by omega)
    have t1 : decide (n ≤ 6) = false := decide_eq_false h6
    rw [mayA_any, hl, t1, Bool.false_and]
    clear h hl h6
    go_enter Try.func17, Try.ntmps17
    go_wp2_with fail
    go_ret
    exact ⟨rfl, Below.refl _ _⟩
theorem latMayP (v : Value) (l : List Aa) (w : World) (h : SlE Eaa w v l) :
    Calls Try.prog 17 #[v] w fun e w' => e = .returned (.bool (mayA l)) ∧ Below w.heap.size w w' := by
  have k := h
  obtain ⟨p, cp, rfl, _⟩ := slE_shape h
  exact latMayP_n p _ cp l w k rfl
end Go.Proofs.Ytljehgohcchocaa
