/-
  Package tree: isPlace.
  []int: append, s[n:], an argument; in any translation that has it. (written by wip/mkslice.py)
  Children, told one by one.
  Package tree: Kids, walked.
-/
import Derived.Test.YtonfmddjlhgglaaP06May
import Derived.Test.YtonfmddjlhgglaaPr
import Derived.Test.YtonfmddjlhgglaaTmem
namespace Go.Proofs.Ytonfmddjlhgglaa
open Go.RowKit

set_option maxRecDepth 100000 in
set_option maxHeartbeats 4000000 in
theorem treePlace (s : SlV) (l : List Nd) (i : Int) (w : World) (h : SlE Ene w (sv s) l) :
    Calls Try.prog 30 #[.agg (tr ⟨s⟩), .int .i64 i] w fun e w' => e = .returned (.bool (isT l i)) ∧ Below w.heap.size w w' := by
  have HM := Lib.hid (fun W (g : Below w.heap.size w W) => treeMay s l W (slE_keep g h))
  have hl := sv_lenN h
  obtain ⟨p, n, cp⟩ := s
  dsimp only at hl
  obtain ⟨r, hr⟩ : ∃ r, r = decide (MayT l) := ⟨_, rfl⟩
  rw [← hr] at HM
  obtain ⟨x, hx⟩ : ∃ x, x = isT l i := ⟨_, rfl⟩
  rw [← hx]
  have HX : Hid (x = (r && (decide (0 ≤ i) && decide (i < (n : Int))))) := by rw [hx, hr]; unfold isT; rw [hl]; rfl
  obtain ⟨W0, hW0⟩ : ∃ W0, W0 = w.alloc (.cells (tr ⟨⟨p, n, cp⟩⟩) 24) := ⟨_, rfl⟩
  have HB : Hid (Below w.heap.size w W0) := by rw [hW0]; exact below1
  have M0 : Hid (W0.heap[w.heap.size]? = some (.cells (tr ⟨⟨p, n, cp⟩⟩) 24 (0, 0))) := by rw [hW0]; exact heap_alloc_last w _
  have HW := Lib.hid hW0
  clear hW0 h hl hr hx
  go_enter Try.func30, Try.ntmps30
  go_wp2_with fail
  rw [← HW.out]
  refine (HM.out W0 HB.out).mono ?_
  rintro e w1 ⟨rfl, g1⟩
  have G1 := Lib.hid (belowT HB.out g1)
  obtain ⟨z0, z1, zl⟩ := tr_cells (blk_keep g1 M0.out)
  dsimp only at z0
  rw [sv_mk] at z0
  cases r
  · go_wp2_with fail
    go_ret
    exact ⟨by rw [HX.out]; rfl, G1.out⟩
  · by_cases h0 : 0 ≤ i
    · have t0 : decide (0 ≤ i) = true := decide_eq_true h0
      by_cases h1 : i < (n : Int)
      · have t1 : decide (i < (n : Int)) = true := decide_eq_true h1
        have hX : Hid (x = true) := by show x = true; rw [HX.out, t0, t1]; rfl
        clear h0 h1
        go_wp2_with fail
        go_ret
        exact ⟨by rw [hX.out]; first | done | rfl, G1.out⟩
      · have t1 : decide (i < (n : Int)) = false := decide_eq_false h1
        have hX : Hid (x = false) := by show x = false; rw [HX.out, t0, t1]; rfl
        clear h0 h1
        go_wp2_with fail
        go_ret
        exact ⟨by rw [hX.out]; first | done | rfl, G1.out⟩
    · have t0 : decide (0 ≤ i) = false := decide_eq_false h0
      have hX : Hid (x = false) := by show x = false; rw [HX.out, t0]; rfl
      clear h0
      go_wp2_with fail
      go_ret
      exact ⟨by rw [hX.out]; first | done | rfl, G1.out⟩

end Go.Proofs.Ytonfmddjlhgglaa
namespace Go.Proofs.Ytonfmddjlhgglaa
open Go.RowKit
theorem info_int : (Try.prog.info? 3).map (fun i => (i.zero, i.size, i.bytes)) = some (some (.int .i64 0), 1, 8) := by kernel_rfl
theorem Kint : Known Try.prog Eint 34 := ⟨Try.underlying34, .int .i64 0, 8, info_int, rfl, by decide⟩
@[go_sem ↓] theorem slice_from_int (ρ : Operand → Value) (dst : Option Tmp) (x lo : Operand) (ty : TypeId) (pos : String) (after : Array Edge) (guard : Option (Nat × Bool)) (w : World) :
    (execOp ρ { dst, op := .slice 34 x (some lo) none none, type := ty, pos, after, guard }).run Try.prog w = vOutE (cutFE 1 (ρ x) (ρ lo)) w (opRest Try.prog ρ { dst, op := .slice 34 x (some lo) none none, type := ty, pos, after, guard } w) :=
  slice_from_E Try.underlying34 Try.sizeOf3 ρ dst x lo ty pos after guard w
section
open Go.WideShapes Go.ChangeShapes
variable {H : Type} {enc : TypeId × Value → H} {w : World} {base : Nat} {sp : Nat → Bool} {held : Bool}
/-- A slice's one cell. -/
theorem cell_ints {fuel : Nat} {v : Value} {x : DataW H × List MemPlace} (h : DataW.trod enc Try.prog w base sp held fuel 34 [v] = some x) : ∃ l : List Int, SlE Eint w v l :=
  cells_E Try.underlying34 cellsOf_int (fun _ _ _ h => cells_int h) h
theorem open_ints {r : Reach} {b0 : Nat} {v : Value} {d : DataW H} {ps : List MemPlace} (hval : Value.okWide Try.prog w r b0 34 v) (hd : DataW.Trod enc Try.prog w base sp held 34 v d ps) : ∃ l : List Int, SlE Eint w v l := by
  obtain ⟨a, len, cap, rfl⟩ := okWide_slice Try.underlying34 hval
  obtain ⟨fuel, hf⟩ := hd
  exact cell_ints hf
end
end Go.Proofs.Ytonfmddjlhgglaa
namespace Go.Proofs.Ytonfmddjlhgglaa
open Go.RowKit

def kidsUp (l : List Nd) (i j : Nat) : List Int := ((List.range j).filter fun k => decide ((nd l k).parent = (i : Int))).map fun k : Nat => (k : Int)
theorem kidsUp_zero (l : List Nd) (i : Nat) : kidsUp l i 0 = [] := rfl
theorem kidsUp_yes {l : List Nd} {i j : Nat} (h : (nd l j).parent = (i : Int)) : kidsUp l i (j + 1) = kidsUp l i j ++ [(j : Int)] := by
  unfold kidsUp
  rw [List.range_succ, List.filter_append, List.map_append]
  simp [h]
theorem kidsUp_no {l : List Nd} {i j : Nat} (h : (nd l j).parent ≠ (i : Int)) : kidsUp l i (j + 1) = kidsUp l i j := by
  unfold kidsUp
  rw [List.range_succ, List.filter_append, List.map_append]
  simp [h]
theorem kidsUp_len (l : List Nd) (i j : Nat) : (kidsUp l i j).length ≤ j := by
  unfold kidsUp
  rw [List.length_map]
  have := List.length_filter_le (fun k => decide ((nd l k).parent = (i : Int))) (List.range j)
  rwa [List.length_range] at this
def kidsI (l : List Nd) (i : Int) : List Int := (kidsZ l i).map fun k : Nat => (k : Int)
theorem kidsI_nat {l : List Nd} (h : MayT l) {i : Nat} (hi : i < l.length) : kidsI l (i : Int) = kidsUp l i l.length := by
  unfold kidsI
  rw [kidsZ_nat h hi]
  rfl
theorem kidsI_not {l : List Nd} {i : Int} (h : isT l i = false) : kidsI l i = [] := by
  unfold kidsI kidsZ
  rw [h]
  rfl
/-- Numbers are answered, in memory of the call's own. -/
def IntsIs (L : List Int) (w : World) (e : Ending) (w' : World) : Prop := ∃ v, e = .returned v ∧ OwnE Eint w' w.heap.size v L ∧ Below w.heap.size w w'
end Go.Proofs.Ytonfmddjlhgglaa
namespace Go.Proofs.Ytonfmddjlhgglaa
open Go.RowKit

set_option maxRecDepth 100000 in
set_option maxHeartbeats 4000000 in
theorem treeKids (s : SlV) (l : List Nd) (i : Int) (w : World) (h : SlE Ene w (sv s) l) :
    Calls Try.prog 17 #[.agg (tr ⟨s⟩), .int .i64 i] w (IntsIs (kidsI l i) w) := by
  have HP := Lib.hid (fun W (g : Below w.heap.size w W) => treePlace s l i W (slE_keep g h))
  have HL := Lib.hid (sv_lenN h)
  obtain ⟨p, n, cp⟩ := s
  dsimp only at HL
  obtain ⟨a, ha⟩ : ∃ a, a = isT l i := ⟨_, rfl⟩
  rw [← ha] at HP
  obtain ⟨W0, hW0⟩ : ∃ W0, W0 = w.alloc (.cells (tr ⟨⟨p, n, cp⟩⟩) 24) := ⟨_, rfl⟩
  have HB : Hid (Below w.heap.size w W0) := by rw [hW0]; exact below1
  have M0 : Hid (W0.heap[w.heap.size]? = some (.cells (tr ⟨⟨p, n, cp⟩⟩) 24 (0, 0))) := by rw [hW0]; exact heap_alloc_last w _
  have HS := Lib.hid h
  have HW := Lib.hid hW0
  have HA := Lib.hid ha
  clear hW0 h ha
  cases a
  · have HE : Hid (kidsI l i = []) := kidsI_not HA.out.symm
    go_enter Try.func17, Try.ntmps17
    go_wp2_with fail
    rw [← HW.out]
    refine (HP.out W0 HB.out).mono ?_
    rintro e w1 ⟨rfl, g1⟩
    have G1 := Lib.hid (belowT HB.out g1)
    clear g1
    go_wp2_with fail
    go_ret
    exact ⟨_, rfl, by rw [HE.out]; exact ownE_nil _ _ _, G1.out⟩
  · obtain ⟨hm, hi0, hi1⟩ := isT_iff.1 HA.out.symm
    obtain ⟨i', rfl⟩ : ∃ i' : Nat, i = i' := ⟨i.toNat, by omega⟩
    have HE : Hid (kidsI l (i' : Int) = kidsUp l i' n) := by show _ = _; rw [kidsI_nat hm (by omega), HL.out]
    have HN : Hid (n ≤ 12) := by show n ≤ 12; have := hm.le; have := HL.out; omega
    obtain ⟨b1, o1, rfl, q1, x1⟩ := slE_ptr HS.out hm.pos
    clear hi0 hi1 HA hm
    go_enter Try.func17, Try.ntmps17
    go_wp2_with fail
    rw [← HW.out]
    refine (HP.out W0 HB.out).mono ?_
    rintro e w1 ⟨rfl, g1⟩
    have G1 := Lib.hid (belowT HB.out g1)
    have M1 := Lib.hid (blk_keep g1 M0.out)
    have X1 := Lib.hid (keepR G1.out x1)
    obtain ⟨z0, z1, zl⟩ := tr_cells M1.out
    dsimp only at z0
    rw [sv_mk] at z0
    clear g1 x1 q1
    go_wp2_with fail
    go_loopw [5, 15] (fun v i wr => ∃ j : Nat, j ≤ n ∧ i = .int .i64 (j : Int) ∧ OwnE Eint wr w1.heap.size v (kidsUp l i' j) ∧ Below w1.heap.size w1 wr) (fun _ i _ => n - (intOf i).toNat)
    case atStart => exact ⟨0, Nat.zero_le _, rfl, ownE_nil _ _ _, Below.refl _ _⟩
    case round =>
      obtain ⟨j, hj, rfl, hown, hb⟩ := hrel
      have HO := Lib.hid hown
      have HBB := Lib.hid hb
      obtain ⟨z0, z1, zl⟩ := tr_cells (blk_keep hb M1.out)
      dsimp only at z0
      rw [sv_mk] at z0
      clear hown hb
      by_cases hlt : j < n
      · have i0 : (0 : Int) ≤ (j : Int) := by omega
        have i1 : (j : Int) < (n : Int) := by omega
        have u1 : (j : Int) + 1 < 10000 := by have := HN.out; omega
        have y1 := keep HBB.out (show ldA w1 (.pointer (some ⟨b1, o1 + j * 35, none⟩)) 35 = some (ne (nd l j)) from nds_ld X1.out (by have := HL.out; omega))
        have HXn : Hid (∃ x, x = nd l j) := ⟨_, rfl⟩
        obtain ⟨x, hx⟩ := HXn.out
        rw [← hx] at y1
        have HXx := Lib.hid hx
        clear HXn hx
        by_cases he : x.parent = (i' : Int)
        · have t1 : (x.parent == (i' : Int)) = true := by simpa using he
          have HE2 : Hid (kidsUp l i' (j + 1) = kidsUp l i' j ++ [(j : Int)]) := kidsUp_yes (by rw [← HXx.out]; exact he)
          have HLn := Lib.hid (kidsUp_len l i' j)
          clear he
          go_wp2_with (at_builtin; refine wpList_append_E Kint _ rfl (.tmp 24) (.tmp 26) rfl w1.heap.size _ (kidsUp l i' j) rfl (ownE_alloc (ownE_alloc HO.out _) _) _ [(j : Int)] rfl (slE_lit _ [(j : Int)] 1 _ _ _ rfl (by simp) rfl) (by have := HLn.out; have := HN.out; simp; omega) (by have := HBB.out.size; simp; omega) ?_; intro v2 w2 ho2 hg2)
          go_roundw
          case rel => exact ⟨j + 1, by omega, by go_num, by rw [HE2.out]; exact ho2, (belowT HBB.out (belowT below1 below1)).trans (hg2.own (ownE_alloc (ownE_alloc HO.out _) _) (by have := HBB.out.size; simp; omega))⟩
          case measure => simp [intOf]; omega
        · have t1 : (x.parent == (i' : Int)) = false := by simpa using he
          have HE2 : Hid (kidsUp l i' (j + 1) = kidsUp l i' j) := kidsUp_no (by rw [← HXx.out]; exact he)
          clear he
          go_wp2_with fail
          go_roundw
          case rel => exact ⟨j + 1, by omega, by go_num, by rw [HE2.out]; exact ownE_alloc HO.out _, belowT HBB.out below1⟩
          case measure => simp [intOf]; omega
      · obtain rfl : j = n := by omega
        clear hlt
        go_wp2_with fail
        go_ret
        exact ⟨_, rfl, by rw [HE.out]; exact ownE_base HO.out G1.out.size, belowT G1.out HBB.out⟩
theorem enters_kids06 : ∀ args w, (callFunc 17 args).run Try.prog w = .ok (.enter 17 args) w := entersE Try.func17 (by kernel_rfl) (by kernel_rfl)
end Go.Proofs.Ytonfmddjlhgglaa
