/-
  Package link: Clash, walked.
  A list of links: slices.Clone, walked.
  []int: append, s[n:], an argument; in any translation that has it. (written by wip/mkslice.py)
  Lists of ints in memory: one read; what is answered.
  What is asked of stake.Who.
-/
import Derived.Test.YtlhnjaeocoafnaaQ46
import Derived.Test.YtlhnjaeocoafnaaQ14
import Derived.Test.YtlhnjaeocoafnaaQ26
import Derived.Laws.Cover3
import Derived.Test.YtlhnjaeocoafnaaQ07
import Derived.Test.YtlhnjaeocoafnaaQ12
import Derived.Test.YtlhnjaeocoafnaaQ10
namespace Go.Proofs.Ytlhnjaeocoafnaa
open Go.RowKit
set_option maxRecDepth 100000

@[local go_sem] theorem run_store_fn (P : Program) (w : World) (a : Addr) (m : Mode) (fn : Fn) (first captured : Array Value) : (store a (.func fn first captured) m).run P w = stored P w a (.func fn first captured) m := run_store P w a _ m rfl
theorem clash_rules (a b : Lk) : clashB a b = ((twiceB a b || twiceB b a) || (roundB a b || roundB b a)) := by
  have h1 : twiceB a b = (!oneB a b && decide (a.t.epoch = b.t.epoch)) := by
    unfold twiceB
    rw [show decide (a.t.epoch = b.t.epoch) = decide (a.t.epoch.toNat = b.t.epoch.toNat) by rw [Bool.eq_iff_iff, decide_eq_true_iff, decide_eq_true_iff]; exact UInt64.toNat_inj.symm]
  have h2 : twiceB b a = twiceB a b := by
    unfold twiceB
    rw [oneB_comm b a, show decide (b.t.epoch.toNat = a.t.epoch.toNat) = decide (a.t.epoch.toNat = b.t.epoch.toNat) by rw [Bool.eq_iff_iff, decide_eq_true_iff, decide_eq_true_iff]; exact eq_comm]
  rw [h2, Bool.or_self, h1]; rfl

set_option maxRecDepth 100000 in
set_option maxHeartbeats 8000000 in
theorem linkClash (a b : Lk) (w : World) :
    Calls Try.prog 59 #[.agg (lk a), .agg (lk b)] w fun e w' => e = .returned (.bool (clashB a b)) ∧ Below w.heap.size w w' := by
  obtain ⟨W0, hW0⟩ : ∃ W0, W0 = (w.alloc (.cells (lk a) 63)).alloc (.cells (lk b) 63) := ⟨_, rfl⟩
  obtain ⟨hB, A, B⟩ := lk_two w a b W0 hW0
  have HB := Lib.hid hB
  have HW := Lib.hid hW0
  have HA := Lib.hid A.a
  have HC := Lib.hid B.a
  have HT1 := Lib.hid (fun W => linkTwice a b W)
  have HT2 := Lib.hid (fun W => linkTwice b a W)
  have HR1 := Lib.hid (fun W => linkAround a b W)
  have HR2 := Lib.hid (fun W => linkAround b a W)
  have HR := Lib.hid (clash_rules a b)
  rw [HR.out]
  generalize twiceB a b = T1 at *
  generalize twiceB b a = T2 at *
  generalize roundB a b = R1 at *
  generalize roundB b a = R2 at *
  clear HR hW0 hB A B
  go_enter Try.func59, Try.ntmps59
  go_upto_region 1 with fail
  rw [← HW.out]
  go_wp2_with fail
  refine (linkRules W0).mono ?_
  rintro e w1 ⟨rfl, hw1⟩
  have G1 : Hid (Below W0.heap.size W0 w1) := by show Below _ _ _; rw [hw1]; exact below1
  have M1 : Hid (w1.heap[W0.heap.size]? = some (.cells #[fTwice, fAround] 115 (0, 0))) := by show _ = _; rw [hw1]; exact heap_alloc_last _ _
  obtain ⟨R, hR⟩ : ∃ R, R = W0.heap.size := ⟨_, rfl⟩
  have HZ := Lib.hid hR
  rw [← hR] at M1 ⊢
  clear hw1 hR
  go_wp2_with fail
  go_loopw [9, 6] (fun i _ wr => ∃ j : Nat, j ≤ 2 ∧ i = .int .i64 (j : Int) ∧ (0 < j → T1 = false ∧ T2 = false) ∧ (1 < j → R1 = false ∧ R2 = false) ∧ Below w1.heap.size w1 wr) (fun i _ _ => 2 - (intOf i).toNat)
  case atStart => exact ⟨0, Nat.zero_le _, rfl, fun h => absurd h (Nat.lt_irrefl _), fun h => by omega, Below.refl _ _⟩
  case round =>
    obtain ⟨j, hj, rfl, h1, h2, hb⟩ := hrel
    have H1 := Lib.hid h1
    have H2 := Lib.hid h2
    have HBB := Lib.hid hb
    have m := blk_keep hb M1.out
    have c0 : wr.cell? ⟨R, 0, none⟩ = some (.func (.func 103) #[] #[]) := by rw [cell_of_row _ _ _ _ _ _ m]; rfl
    have c1 : wr.cell? ⟨R, 1, none⟩ = some (.func (.func 104) #[] #[]) := by rw [cell_of_row _ _ _ _ _ _ m]; rfl
    have La := Lib.hid (fun W (g : Below wr.heap.size wr W) => keep (belowT (belowT G1.out HBB.out) g) HA.out)
    have Lb := Lib.hid (fun W (g : Below wr.heap.size wr W) => keep (belowT (belowT G1.out HBB.out) g) HC.out)
    have la := La.out wr (Below.refl _ _)
    have lb := Lb.out wr (Below.refl _ _)
    clear h1 h2 hb m
    obtain rfl | rfl | rfl : j = 0 ∨ j = 1 ∨ j = 2 := by omega
    · go_upto_region 4 with fail
      obtain ⟨V, hV⟩ : ∃ V, V = wr.alloc (.cells #[.func (.func 103) #[] #[]] 115) := ⟨_, rfl⟩
      rw [← hV]
      have GV : Hid (Below wr.heap.size wr V) := by show Below _ _ _; rw [hV]; exact below1
      have mV : Hid (V.heap[wr.heap.size]? = some (.cells #[.func (.func 103) #[] #[]] 115 (0, 0))) := by show _ = _; rw [hV]; exact heap_alloc_last _ _
      clear hV c0 c1 la lb
      have c0 : V.cell? ⟨wr.heap.size, 0, none⟩ = some (.func (.func 103) #[] #[]) := by rw [cell_of_row _ _ _ _ _ _ mV.out]; rfl
      have la := La.out V GV.out
      have lb := Lb.out V GV.out
      go_wp2_with fail
      refine (HT1.out V).mono ?_
      rintro e V1 ⟨rfl, g⟩
      have GV1 := Lib.hid (belowT GV.out g)
      clear c0 la lb
      have c0 : V1.cell? ⟨wr.heap.size, 0, none⟩ = some (.func (.func 103) #[] #[]) := by rw [cell_of_row _ _ _ _ _ _ (blk_keep g mV.out)]; rfl
      have la := La.out V1 GV1.out
      have lb := Lb.out V1 GV1.out
      clear g
      cases T1
      · go_wp2_with fail
        refine (HT2.out V1).mono ?_
        rintro e V2 ⟨rfl, g⟩
        have GV2 := Lib.hid (belowT GV1.out g)
        clear g c0 la lb
        cases T2
        · go_wp2_with fail
          go_roundw
          case rel => exact ⟨1, by omega, by first | rfl | go_num, fun _ => by first | exact ⟨rfl, rfl⟩ | simp, fun h => by omega, belowT HBB.out GV2.out⟩
          case measure => simp [intOf]
        · go_wp2_with fail
          go_ret
          exact ⟨by simp, belowT (belowT HB.out (belowT G1.out HBB.out)) GV2.out⟩
      · go_wp2_with fail
        go_ret
        exact ⟨by simp, belowT (belowT HB.out (belowT G1.out HBB.out)) GV1.out⟩
    · go_upto_region 4 with fail
      obtain ⟨V, hV⟩ : ∃ V, V = wr.alloc (.cells #[.func (.func 104) #[] #[]] 115) := ⟨_, rfl⟩
      rw [← hV]
      have GV : Hid (Below wr.heap.size wr V) := by show Below _ _ _; rw [hV]; exact below1
      have mV : Hid (V.heap[wr.heap.size]? = some (.cells #[.func (.func 104) #[] #[]] 115 (0, 0))) := by show _ = _; rw [hV]; exact heap_alloc_last _ _
      clear hV c0 c1 la lb
      have c0 : V.cell? ⟨wr.heap.size, 0, none⟩ = some (.func (.func 104) #[] #[]) := by rw [cell_of_row _ _ _ _ _ _ mV.out]; rfl
      have la := La.out V GV.out
      have lb := Lb.out V GV.out
      go_wp2_with fail
      refine (HR1.out V).mono ?_
      rintro e V1 ⟨rfl, g⟩
      have GV1 := Lib.hid (belowT GV.out g)
      clear c0 la lb
      have c0 : V1.cell? ⟨wr.heap.size, 0, none⟩ = some (.func (.func 104) #[] #[]) := by rw [cell_of_row _ _ _ _ _ _ (blk_keep g mV.out)]; rfl
      have la := La.out V1 GV1.out
      have lb := Lb.out V1 GV1.out
      clear g
      cases R1
      · go_wp2_with fail
        refine (HR2.out V1).mono ?_
        rintro e V2 ⟨rfl, g⟩
        have GV2 := Lib.hid (belowT GV1.out g)
        clear g c0 la lb
        cases R2
        · go_wp2_with fail
          go_roundw
          case rel => exact ⟨2, by omega, by first | rfl | go_num, fun _ => H1.out (by omega), fun _ => by first | exact ⟨rfl, rfl⟩ | simp, belowT HBB.out GV2.out⟩
          case measure => simp [intOf]
        · go_wp2_with fail
          go_ret
          exact ⟨by simp, belowT (belowT HB.out (belowT G1.out HBB.out)) GV2.out⟩
      · go_wp2_with fail
        go_ret
        exact ⟨by simp, belowT (belowT HB.out (belowT G1.out HBB.out)) GV1.out⟩
    · obtain ⟨e1, e2⟩ := H1.out (by omega)
      obtain ⟨e3, e4⟩ := H2.out (by omega)
      subst e1 e2 e3 e4
      clear c0 c1 la lb
      go_wp2_with fail
      go_ret
      exact ⟨rfl, belowT HB.out (belowT G1.out HBB.out)⟩
theorem enters_linkClash : ∀ args w, (callFunc 59 args).run Try.prog w = .ok (.enter 59 args) w := entersE Try.func59 (by kernel_rfl) (by kernel_rfl)
end Go.Proofs.Ytlhnjaeocoafnaa
namespace Go.Proofs.Ytlhnjaeocoafnaa
open Go.RowKit
set_option maxRecDepth 100000

theorem eq_nilLk (p : Option Addr) (n cap : Nat) (w : World) : (binOp .eql 25 (.slice p n cap) (.slice none 0 0)).run Try.prog w = .ok (.bool p.isNone) w := by
  have h := run_equalIn_slice_nil (P := Try.prog) w 9999 25 63 p n cap Try.underlying25
  simp [binOp, Op.equal, Op.maxDepth, h]
theorem KlkB : KnownB Try.prog Elk 25 88 := ⟨Try.underlying25, .agg (lk zlk), info_lk, by show ((lk zlk)).size = _; exact lk_size _⟩
def SlIsK (l : List Lk) (w : World) (e : Ending) (w' : World) : Prop := ∃ v, e = .returned v ∧ OwnE Elk w' w.heap.size v l ∧ Below w.heap.size w w'

set_option maxRecDepth 100000 in
set_option maxHeartbeats 1000000 in
theorem cloneLk_n (p : Option Addr) (n cap : Nat) (l : List Lk) (w : World) (h : SlE Elk w (.slice p n cap) l) (hl : l.length = n) (hn : n * 88 ≤ 140737488355328) :
    Calls Try.prog 55 #[.slice p n cap] w (SlIsK l w) := by
  have HS := Lib.hid h
  have HL := Lib.hid hl
  have HN := Lib.hid hn
  cases p with
  | none =>
    have hn0 : l = [] := by
      obtain ⟨p, cap', e, _, h⟩ := h
      injection e with e
      subst e
      exact h.resolve_right (fun ⟨_, _, e, _⟩ => by cases e)
    have e : n = 0 := by rw [← hl, hn0]; rfl
    subst hn0 e
    clear HS h hl hn
    have he : ∀ w, (binOp .eql 25 (.slice none 0 cap) (.slice none 0 0)).run Try.prog w = .ok (.bool true) w := fun w => eq_nilLk none 0 cap w
    go_enter Try.func55, Try.ntmps55
    go_wp2_with fail
    go_ret
    exact ⟨_, rfl, ownE_nil _ _ _, Below.refl _ _⟩
  | some a =>
    have HO : Hid (OwnE Elk (w.alloc (.cells #[] 63)) w.heap.size (.slice (some ⟨w.heap.size, 0, none⟩) 0 0) []) := ownE_lit (E := Elk) w [] 0 rfl (by simp [maxLen]) #[] rfl _ rfl
    have HB : Hid (Below w.heap.size w (w.alloc (.cells #[] 63))) := below1
    clear h hl hn
    have he : ∀ w, (binOp .eql 25 (.slice (some a) n cap) (.slice none 0 0)).run Try.prog w = .ok (.bool false) w := fun w => eq_nilLk (some a) n cap w
    go_enter Try.func55, Try.ntmps55
    go_wp2_with (at_builtin; refine wpList_append_B KlkB _ rfl (.tmp 5) (.tmp 6) rfl w.heap.size _ [] rfl HO.out _ l rfl (slE_keep HB.out HS.out) (by have := HL.out; have := HN.out; simp [maxLen]; omega) (by have := HL.out; have := HN.out; simp; omega) (by simp) ?_; intro v2 w2 ho2 hg2)
    go_ret
    exact ⟨_, rfl, by simpa using ho2, HB.out.trans (hg2.own HO.out (by simp))⟩
theorem cloneLk (v : Value) (l : List Lk) (w : World) (h : SlE Elk w v l) (hn : l.length * 88 ≤ 140737488355328) :
    Calls Try.prog 55 #[v] w (SlIsK l w) := by
  have k := h
  obtain ⟨p, cl, rfl, _⟩ := slE_shape h
  exact cloneLk_n p _ cl l w k rfl hn
theorem enters_cloneLk : ∀ args w, (callFunc 55 args).run Try.prog w = .ok (.enter 55 args) w := entersE Try.func55 (by kernel_rfl) (by kernel_rfl)
end Go.Proofs.Ytlhnjaeocoafnaa
namespace Go.Proofs.Ytlhnjaeocoafnaa
open Go.RowKit
set_option maxRecDepth 100000
theorem info_int : (Try.prog.info? 3).map (fun i => (i.zero, i.size, i.bytes)) = some (some (.int .i64 0), 1, 8) := by kernel_rfl
theorem Kint : Known Try.prog Eint 88 := ⟨Try.underlying88, .int .i64 0, 8, info_int, rfl, by decide⟩
@[go_sem ↓] theorem slice_from_int (ρ : Operand → Value) (dst : Option Tmp) (x lo : Operand) (ty : TypeId) (pos : String) (after : Array Edge) (guard : Option (Nat × Bool)) (w : World) :
    (execOp ρ { dst, op := .slice 88 x (some lo) none none, type := ty, pos, after, guard }).run Try.prog w = vOutE (cutFE 1 (ρ x) (ρ lo)) w (opRest Try.prog ρ { dst, op := .slice 88 x (some lo) none none, type := ty, pos, after, guard } w) :=
  slice_from_E Try.underlying88 Try.sizeOf3 ρ dst x lo ty pos after guard w
section
open Go.WideShapes Go.ChangeShapes
variable {H : Type} {enc : TypeId × Value → H} {w : World} {base : Nat} {sp : Nat → Bool} {held : Bool}
set_option maxRecDepth 100000 in
/-- A slice's one cell. -/
theorem cell_ints {fuel : Nat} {v : Value} {x : DataW H × List MemPlace} (h : DataW.trod enc Try.prog w base sp held fuel 88 [v] = some x) : ∃ l : List Int, SlE Eint w v l :=
  cells_E Try.underlying88 cellsOf_int (fun _ _ _ h => cells_int h) h
set_option maxRecDepth 100000 in
theorem open_ints {r : Reach} {b0 : Nat} {v : Value} {d : DataW H} {ps : List MemPlace} (hval : Value.okWide Try.prog w r b0 88 v) (hd : DataW.Trod enc Try.prog w base sp held 88 v d ps) : ∃ l : List Int, SlE Eint w v l := by
  obtain ⟨a, len, cap, rfl⟩ := okWide_slice Try.underlying88 hval
  obtain ⟨fuel, hf⟩ := hd
  exact cell_ints hf
end
end Go.Proofs.Ytlhnjaeocoafnaa
namespace Go.Proofs.Ytlhnjaeocoafnaa
open Go.RowKit
set_option maxRecDepth 100000
/-- Numbers are answered, in memory of the call's own. -/
def IntsIs (L : List Int) (w : World) (e : Ending) (w' : World) : Prop := ∃ v, e = .returned v ∧ OwnE Eint w' w.heap.size v L ∧ Below w.heap.size w w'
theorem ints_at {w : World} {b off : Nat} {a : List Int} (h : w.rangeAt b off (cellsE Eint a)) {i : Nat} (hi : i < a.length) : w.cell? ⟨b, off + i, none⟩ = some (.int .i64 (a.getD i 0)) := by
  have := cell_at h hi (j := 0) (v := .int .i64 a[i]) rfl
  rw [List.getD_eq_getElem?_getD, List.getElem?_eq_getElem hi]
  simpa [Eint] using this
theorem ints_ptr {w : World} {p : Option Addr} {n cp : Nat} {a : List Int} (h : SlE Eint w (.slice p n cp) a) (h0 : 0 < a.length) : ∃ b o, p = some ⟨b, o, none⟩ ∧ b < w.heap.size ∧ w.rangeAt b o (cellsE Eint a) := by
  obtain ⟨b, o, c, e, _, q, x⟩ := slE_ne h h0
  injection e with e1 e2 e3
  exact ⟨b, o, e1, q, x⟩
/-- Ints are answered, in whatever memory. -/
def ListIs (L : List Int) (w : World) (e : Ending) (w' : World) : Prop := ∃ v, e = .returned v ∧ SlE Eint w' v L ∧ Below w.heap.size w w'
theorem IntsIs.list {L : List Int} {w w' : World} {e : Ending} (h : IntsIs L w e w') : ListIs L w e w' := by
  obtain ⟨v, h1, h2, h3⟩ := h
  exact ⟨v, h1, ownE_slE h2, h3⟩
end Go.Proofs.Ytlhnjaeocoafnaa
namespace Go.Proofs.Ytlhnjaeocoafnaa
open Go.RowKit
set_option maxRecDepth 100000

def StWhoC : Prop := ∀ (m : UInt64) (w : World), Calls Try.prog 58 #[.int .u64 (m.toNat : Int)] w (ListIs (whoI m) w)
end Go.Proofs.Ytlhnjaeocoafnaa
