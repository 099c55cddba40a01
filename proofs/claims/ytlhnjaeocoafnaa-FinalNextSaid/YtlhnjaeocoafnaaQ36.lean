/-
  Package link: isForth, endsOf, oneMay, isTwice, isAround, byTarget, walked.
  Package link: places, walked.
  Package link: May, walked.
  What is asked of stake.Bit.
-/
import Derived.Test.YtlhnjaeocoafnaaQ20
import Derived.Test.YtlhnjaeocoafnaaQ35
import Derived.Maps.OwnOps
import Derived.Test.YtlhnjaeocoafnaaQ10
import Derived.Test.YtlhnjaeocoafnaaQ07
import Derived.Test.YtlhnjaeocoafnaaQ12
namespace Go.Proofs.Ytlhnjaeocoafnaa
open Go.RowKit
set_option maxRecDepth 100000

set_option maxRecDepth 100000 in
set_option maxHeartbeats 4000000 in
theorem linkForth (s t : Ck) (w : World) :
    Calls Try.prog 73 #[.agg (cc s), .agg (cc t)] w fun e w' => e = .returned (.bool (decide (s.epoch.toNat < t.epoch.toNat))) ∧ Below w.heap.size w w' := by
  obtain ⟨W0, hW0⟩ : ∃ W0, W0 = (w.alloc (.cells (cc s) 32)).alloc (.cells (cc t) 32) := ⟨_, rfl⟩
  obtain ⟨hB, m0, m1, _⟩ := heap2 w _ _ _ _ W0 hW0
  have HB := Lib.hid hB
  have HW := Lib.hid hW0
  have a1 := (ck_v m0).e
  have b1 := (ck_v m1).e
  clear hW0 hB m0 m1
  generalize s.epoch.toNat = A at *
  generalize t.epoch.toNat = B at *
  obtain ⟨E, hE⟩ : ∃ E, E = decide (A < B) := ⟨_, rfl⟩
  rw [← hE]
  have t1 : decide ((A : Int) < (B : Int)) = E := by rw [hE]; congr 1; rw [eq_iff_iff]; omega
  have t1' : decide (A < B) = E := hE.symm
  clear hE
  go_enter Try.func73, Try.ntmps73
  go_upto_region 1 with fail
  rw [← HW.out]
  go_wp2_with fail
  go_ret
  exact ⟨rfl, HB.out⟩
theorem enters_linkForth : ∀ args w, (callFunc 73 args).run Try.prog w = .ok (.enter 73 args) w := entersE Try.func73 (by kernel_rfl) (by kernel_rfl)


set_option maxRecDepth 100000 in
set_option maxHeartbeats 4000000 in
theorem linkEnds (k : Lk) (w : World) :
    Calls Try.prog 74 #[.agg (lk k)] w fun e w' => e = .returned (.agg (ed (edOf k))) ∧ Below w.heap.size w w' := by
  obtain ⟨W0, hW0⟩ : ∃ W0, W0 = (w.alloc (.cells (lk k) 63)).alloc (.cells (ed zed) 101) := ⟨_, rfl⟩
  obtain ⟨hB, m0, m1, hz⟩ := heap2 w _ _ _ _ W0 hW0
  have HB := Lib.hid hB
  have HW := Lib.hid hW0
  have M1 := Lib.hid m1
  have a1 := (lk_v m0).s
  have a2 := (lk_v m0).t
  have z1 := wrA_block m1 (ed_size _)
  clear hW0 hB m0 m1 hz
  go_enter Try.func74, Try.ntmps74
  go_upto_region 1 with fail
  rw [← HW.out]
  go_wp2_with fail
  exact bodyPost_ret (results_agg1 Try.isAgg101 Try.sizeOf101 _ 2 rfl _ _ _ _ rfl (ldA_block (heap_putV M1.out (by rw [ed_size, ed_size])) (ed_size _))) rfl ⟨rfl, below_stA HB.out (Nat.le_succ _)⟩
theorem enters_linkEnds : ∀ args w, (callFunc 74 args).run Try.prog w = .ok (.enter 74 args) w := entersE Try.func74 (by kernel_rfl) (by kernel_rfl)

set_option maxRecDepth 100000 in
set_option maxHeartbeats 4000000 in
theorem linkOneMay (k : Lk) (w : World) :
    Calls Try.prog 49 #[.agg (lk k)] w fun e w' => e = .returned (.bool (decide (okK k))) ∧ Below w.heap.size w w' := by
  obtain ⟨W0, hW0⟩ : ∃ W0, W0 = w.alloc (.cells (lk k) 63) := ⟨_, rfl⟩
  have hB : Below w.heap.size w W0 := by rw [hW0]; exact below1
  have m0 : W0.heap[w.heap.size]? = some (.cells (lk k) 63 (0, 0)) := by rw [hW0]; exact heap_alloc_last w _
  have HB := Lib.hid hB
  have HW := Lib.hid hW0
  have M0 := Lib.hid m0
  have a1 := (lk_v m0).s
  have a2 := (lk_v m0).t
  have HF := Lib.hid (fun W => linkForth k.s k.t W)
  obtain ⟨F, hF⟩ : ∃ F, F = decide (k.s.epoch.toNat < k.t.epoch.toNat) := ⟨_, rfl⟩
  rw [← hF] at HF
  obtain ⟨M, hM⟩ : ∃ M, M = k.mask.toNat := ⟨_, rfl⟩
  have HM := Lib.hid hM
  obtain ⟨E1, hE1⟩ : ∃ E, E = decide (0 < M) := ⟨_, rfl⟩
  obtain ⟨E2, hE2⟩ : ∃ E, E = decide (M ≤ 255) := ⟨_, rfl⟩
  have HR : Hid (decide (okK k) = (F && E1 && E2)) := by
    show _ = _
    rw [hF, hE1, hE2, hM, ← Bool.decide_and, ← Bool.decide_and]
    exact decide_eq_decide.2 ⟨fun ⟨a, b, c⟩ => ⟨⟨a, b⟩, c⟩, fun ⟨⟨a, b⟩, c⟩ => ⟨a, b, c⟩⟩
  rw [HR.out]
  have t1 : decide ((0 : Int) < (M : Int)) = E1 := by rw [hE1]; congr 1; rw [eq_iff_iff]; omega
  have t1' : decide (0 < M) = E1 := hE1.symm
  have t2 : decide ((M : Int) ≤ 255) = E2 := by rw [hE2]; congr 1; rw [eq_iff_iff]; omega
  have t2' : decide (M ≤ 255) = E2 := hE2.symm
  clear hW0 hB m0 hF hM hE1 hE2 HR
  go_enter Try.func49, Try.ntmps49
  go_upto_region 1 with fail
  rw [← HW.out]
  go_wp2_with fail
  refine (HF.out W0).mono ?_
  rintro e w1 ⟨rfl, g⟩
  have G := Lib.hid (belowT HB.out g)
  have c1 := (lk_v (blk_keep g M0.out)).m
  rw [← HM.out] at c1
  clear g a1 a2 HF
  cases F <;> cases E1 <;> cases E2 <;> (
    go_wp2_with fail
    go_ret
    exact ⟨rfl, G.out⟩)
theorem enters_linkOneMay : ∀ args w, (callFunc 49 args).run Try.prog w = .ok (.enter 49 args) w := entersE Try.func49 (by kernel_rfl) (by kernel_rfl)

set_option maxRecDepth 100000 in
set_option maxHeartbeats 4000000 in
theorem linkAround (a b : Lk) (w : World) :
    Calls Try.prog 104 #[.agg (lk a), .agg (lk b)] w fun e w' => e = .returned (.bool (roundB a b)) ∧ Below w.heap.size w w' := by
  obtain ⟨W0, hW0⟩ : ∃ W0, W0 = (w.alloc (.cells (lk a) 63)).alloc (.cells (lk b) 63) := ⟨_, rfl⟩
  obtain ⟨hB, A, B⟩ := lk_two w a b W0 hW0
  have HB := Lib.hid hB
  have HW := Lib.hid hW0
  have a1 := A.se
  have a2 := A.te
  have b1 := B.se
  have b2 := B.te
  have HR : Hid (roundB a b = (decide (a.s.epoch.toNat < b.s.epoch.toNat) && decide (b.t.epoch.toNat < a.t.epoch.toNat))) := by show _ = _; unfold roundB; rw [Bool.eq_iff_iff]; simp
  rw [HR.out]
  clear HR hW0 hB A B
  generalize a.s.epoch.toNat = A1 at *
  generalize a.t.epoch.toNat = A2 at *
  generalize b.s.epoch.toNat = B1 at *
  generalize b.t.epoch.toNat = B2 at *
  obtain ⟨E1, hE1⟩ : ∃ E, E = decide (A1 < B1) := ⟨_, rfl⟩
  obtain ⟨E2, hE2⟩ : ∃ E, E = decide (B2 < A2) := ⟨_, rfl⟩
  rw [← hE1, ← hE2]
  have t1 : decide ((A1 : Int) < (B1 : Int)) = E1 := by rw [hE1]; congr 1; rw [eq_iff_iff]; omega
  have t1' : decide (A1 < B1) = E1 := hE1.symm
  have t2 : decide ((B2 : Int) < (A2 : Int)) = E2 := by rw [hE2]; congr 1; rw [eq_iff_iff]; omega
  have t2' : decide (B2 < A2) = E2 := hE2.symm
  clear hE1 hE2
  go_enter Try.func104, Try.ntmps104
  go_upto_region 1 with fail
  rw [← HW.out]
  cases E1 <;> cases E2 <;> (
    go_wp2_with fail
    go_ret
    exact ⟨rfl, HB.out⟩)
theorem enters_linkAround : ∀ args w, (callFunc 104 args).run Try.prog w = .ok (.enter 104 args) w := entersE Try.func104 (by kernel_rfl) (by kernel_rfl)

def twiceB (a b : Lk) : Bool := !oneB a b && decide (a.t.epoch.toNat = b.t.epoch.toNat)
end Go.Proofs.Ytlhnjaeocoafnaa
namespace Go.Proofs.Ytlhnjaeocoafnaa
open Go.RowKit Go.Maps
set_option maxRecDepth 100000

theorem run_makeMapK {P : Program} {T k e : TypeId} (hu : P.underlying T = some (.map k e)) (n : Int) (w : World) : (Instr.makeMap T (some (.int .i64 n))).run P w = .ok (.map (some w.heap.size)) (w.alloc (.map #[] 0)) := by
  simp only [Instr.makeMap]
  simp [run_underlying hu, asInt]
  rfl
theorem zero_intK (w : World) : (zeroValue 3).run Try.prog w = .ok (.int .i64 0) w := by kernel_rfl
/-- 'v, ok := m[k]' where what is there is known. -/
theorem look_ed {W : World} {b n : Nat} {D : DataW Unit} (h : W.ownsMap Try.prog 101 (plainElem Try.prog 3) b n D) (r : Ed) : ∃ c : Int,
    (Instr.lookup 78 (.map (some b)) (.agg (ed r)) true).run Try.prog W = .ok (.tuple #[.int .i64 c, .bool (Maps.has D (ek r))]) W ∧ D.atKey (ek r) (iLk 0) = iLk c := by
  obtain ⟨v, ps, hrun, hv⟩ := h.look_ok keyed_ed Try.underlying78 (zero_intK W) (plainElem_int Try.underlying3 (by decide)) (key_ed r)
  obtain ⟨a, rfl, hz, _⟩ := plainElem_int_inv Try.underlying3 hv
  exact ⟨a, hrun, congrArg Prod.fst hz⟩
theorem look_at {W : World} {b n : Nat} {D : DataW Unit} (h : W.ownsMap Try.prog 101 (plainElem Try.prog 3) b n D) {r : Ed} {c : Int} (hc : D.atKey (ek r) (iLk 0) = iLk c) :
    (Instr.lookup 78 (.map (some b)) (.agg (ed r)) true).run Try.prog W = .ok (.tuple #[.int .i64 c, .bool (Maps.has D (ek r))]) W := by
  obtain ⟨a, h1, h2⟩ := look_ed h r
  rw [hc] at h2
  unfold iLk at h2
  injection h2 with h2
  injection h2 with _ h2
  rw [h2]; exact h1
/-- What places answers. -/
def PlIs (D : DataW Unit) (n : Nat) (w : World) (e : Ending) (w' : World) : Prop := ∃ b, e = .returned (.map (some b)) ∧ w'.ownsMap Try.prog 101 (plainElem Try.prog 3) b n D ∧ Below w.heap.size w w'

set_option maxRecDepth 100000 in
set_option maxHeartbeats 4000000 in
theorem progLinkPlaces_n (p : Option Addr) (n cp : Nat) (l : List Lk) (w : World) (h : SlE Elk w (.slice p n cp) l) (hl : l.length = n) (hn : n ≤ 1000) :
    Calls Try.prog 50 #[.slice p n cp] w (PlIs (pcD l n) n w) := by
  have hmm := run_makeMapK (P := Try.prog) Try.underlying78
  have HL := Lib.hid hl
  have HN := Lib.hid hn
  have HS := Lib.hid h
  clear h hl hn
  go_enter Try.func50, Try.ntmps50
  go_wp2_with fail
  go_loopw [13] (fun i wr => ∃ j : Nat, j ≤ n ∧ i = .int .i64 (j : Int) ∧ wr.ownsMap Try.prog 101 (plainElem Try.prog 3) w.heap.size j (pcD l j) ∧ Below w.heap.size w wr) (fun i _ => n - (intOf i).toNat)
  case atStart => exact ⟨0, Nat.zero_le _, rfl, World.ownsMap_made _ _ _ _, below1⟩
  case round =>
    obtain ⟨j, hj, rfl, hown, hb⟩ := hrel
    have HO := Lib.hid hown
    have HBB := Lib.hid hb
    clear hown hb
    by_cases hlt : j < n
    · have i0 : (0 : Int) ≤ (j : Int) := by omega
      have i1 : (j : Int) < (n : Int) := by omega
      have u1 : (j : Int) + 1 < 10000 := by have := HN.out; omega
      obtain ⟨b1, o1, rfl, q1, x1⟩ := lks_ptr HS.out (by have := HL.out; omega)
      have y1 := keep HBB.out (lks_ld x1 (i := j) (by have := HL.out; omega))
      clear x1 q1
      obtain ⟨x, hx⟩ : ∃ x, x = lkAt l j := ⟨_, rfl⟩
      rw [← hx] at y1
      have HE : Hid (edAt l j = edOf x) := by show _ = _; rw [hx]; rfl
      clear hx
      go_upto_region 5 with fail
      obtain ⟨V, hV⟩ : ∃ V, V = wr.alloc (.cells (lk x) 63) := ⟨_, rfl⟩
      rw [← hV]
      have GV : Hid (Below wr.heap.size wr V) := by show Below _ _ _; rw [hV]; exact below1
      have MV : Hid (V.heap[wr.heap.size]? = some (.cells (lk x) 63 (0, 0))) := by show _ = _; rw [hV]; exact heap_alloc_last _ _
      clear hV y1
      have a1 := (lk_v MV.out).a
      go_wp2_with fail
      refine (linkEnds x V).mono ?_
      rintro e V1 ⟨rfl, g⟩
      replace GV := Lib.hid (belowT GV.out g)
      replace MV := Lib.hid (blk_keep g MV.out)
      clear g a1
      have a1 := (lk_v MV.out).a
      have HO1 := Lib.hid (ownsMap_keep GV.out HO.out)
      obtain ⟨c, Lc, _⟩ := look_ed HO1.out (edOf x)
      obtain ⟨q, hq⟩ : ∃ q, q = Maps.has (pcD l j) (ek (edOf x)) := ⟨_, rfl⟩
      rw [← hq] at Lc
      have HQ := Lib.hid hq
      clear hq
      cases q
      · have HP : Hid (pcD l (j + 1) = (pcD l j).put (ek (edOf x)) (iLk j)) := by
          show _ = _
          rw [pcD_no (by rw [HE.out]; exact HQ.out.symm), HE.out]
        go_wp2_with fail
        clear Lc
        refine (linkEnds x V1).mono ?_
        rintro e V2 ⟨rfl, g⟩
        replace GV := Lib.hid (belowT GV.out g)
        clear g a1 HO1
        have HO1 := Lib.hid (ownsMap_keep GV.out HO.out)
        go_wp2_with (at_mapUpdate; refine wpList_mapUpdate_own _ rfl _ _ _ 78 rfl 101 3 keyed_ed Try.underlying78 (plainElem Try.prog 3) w.heap.size j _ rfl HO1.out (by unfold maxLen; omega) _ _ _ rfl rfl (key_ed (edOf x)) _ [] (plainElem_int Try.underlying3 (WalkArith.wf_i64 (by omega))) ?_; intro w1 hown1 hgrow1)
        go_roundw
        case rel => exact ⟨j + 1, by omega, by go_num, by rw [HP.out]; exact hown1, (belowT HBB.out GV.out).grown hgrow1 (by have := HBB.out.size; have := GV.out.size; omega) (fun k hk => by cases hk; exact Nat.le_refl _)⟩
        case measure => simp [intOf]; omega
      · have HP : Hid (pcD l (j + 1) = pcD l j) := pcD_yes (by rw [HE.out]; exact HQ.out.symm)
        go_wp2_with fail
        go_roundw
        case rel => exact ⟨j + 1, by omega, by go_num, by rw [HP.out]; exact HO1.out.mono (Nat.le_succ _), belowT HBB.out GV.out⟩
        case measure => simp [intOf]; omega
    · obtain rfl : j = n := by omega
      clear hlt
      go_wp2_with fail
      go_ret
      exact ⟨_, rfl, HO.out, HBB.out⟩
theorem linkPlaces (v : Value) (l : List Lk) (w : World) (h : SlE Elk w v l) (hn : l.length ≤ 1000) :
    Calls Try.prog 50 #[v] w (PlIs (pcD l l.length) l.length w) := by
  have k := h
  obtain ⟨p, cl, rfl, _⟩ := slE_shape h
  exact progLinkPlaces_n p _ cl l w k rfl hn
theorem enters_linkPlaces : ∀ args w, (callFunc 50 args).run Try.prog w = .ok (.enter 50 args) w := entersE Try.func50 (by kernel_rfl) (by kernel_rfl)
end Go.Proofs.Ytlhnjaeocoafnaa
namespace Go.Proofs.Ytlhnjaeocoafnaa
open Go.RowKit Go.Maps
set_option maxRecDepth 100000

set_option maxRecDepth 100000 in
set_option maxHeartbeats 4000000 in
theorem linkMay_far (p : Option Addr) (n cp : Nat) (w : World) (hn : 16 < n) :
    Calls Try.prog 23 #[.slice p n cp] w fun e w' => e = .returned (.bool false) ∧ Below w.heap.size w w' := by
  have t1 : decide ((16 : Int) < (n : Int)) = true := by rw [decide_eq_true_iff]; omega
  have t1' : decide (16 < n) = true := decide_eq_true hn
  clear hn
  go_enter Try.func23, Try.ntmps23
  go_wp2_with fail
  go_ret
  exact ⟨rfl, Below.refl _ _⟩
set_option maxRecDepth 100000 in
set_option maxHeartbeats 8000000 in
theorem linkMay_near (p : Option Addr) (n cp : Nat) (l : List Lk) (w : World) (h : SlE Elk w (.slice p n cp) l) (hl : l.length = n) (hn : n ≤ 16) :
    Calls Try.prog 23 #[.slice p n cp] w fun e w' => e = .returned (.bool (mayL l)) ∧ Below w.heap.size w w' := by
  have HN := Lib.hid hn
  have HL := Lib.hid hl
  have HS := Lib.hid h
  obtain ⟨r, hr⟩ : ∃ r, r = mayL l := ⟨_, rfl⟩
  rw [← hr]
  have HR : Hid (r = true ↔ (∀ i, i < n → okK (lkAt l i)) ∧ Maps.size (pcD l n) = n) := by
    show _ ↔ _
    rw [hr, mayL_iff, mayK_iff, hl]
    exact ⟨fun h => h.1, fun h => ⟨h, hn⟩⟩
  have t1 : decide ((16 : Int) < (n : Int)) = false := by rw [decide_eq_false_iff_not]; omega
  have t1' : decide (16 < n) = false := by rw [decide_eq_false_iff_not]; omega
  clear h hl hn hr
  go_enter Try.func23, Try.ntmps23
  go_wp2_with fail
  clear t1 t1'
  go_loopw [10] (fun i wr => ∃ j : Nat, j ≤ n ∧ i = .int .i64 (j : Int) ∧ (∀ k, k < j → okK (lkAt l k)) ∧ Below w.heap.size w wr) (fun i _ => n - (intOf i).toNat)
  case atStart => exact ⟨0, Nat.zero_le _, rfl, fun k hk => absurd hk (Nat.not_lt_zero _), Below.refl _ _⟩
  case round =>
    obtain ⟨j, hj, rfl, hx, hb⟩ := hrel
    have HX := Lib.hid hx
    have HBB := Lib.hid hb
    clear hx hb
    by_cases hlt : j < n
    · have i0 : (0 : Int) ≤ (j : Int) := by omega
      have i1 : (j : Int) < (n : Int) := by omega
      have u1 : (j : Int) + 1 < 10000 := by have := HN.out; omega
      obtain ⟨b1, o1, rfl, q1, x1⟩ := lks_ptr HS.out (by have := HL.out; omega)
      have y1 := keep HBB.out (lks_ld x1 (i := j) (by have := HL.out; omega))
      clear x1 q1
      obtain ⟨x, hx⟩ : ∃ x, x = lkAt l j := ⟨_, rfl⟩
      rw [← hx] at y1
      have HE := Lib.hid hx
      have HC := Lib.hid (fun W => linkOneMay x W)
      obtain ⟨c, hc⟩ : ∃ c, c = decide (okK x) := ⟨_, rfl⟩
      rw [← hc] at HC
      have HCc := Lib.hid hc
      clear hx hc
      go_upto_region 6 with fail
      obtain ⟨V, hV⟩ : ∃ V, V = wr.alloc (.cells (lk x) 63) := ⟨_, rfl⟩
      rw [← hV]
      have GV : Hid (Below wr.heap.size wr V) := by show Below _ _ _; rw [hV]; exact below1
      have MV : Hid (V.heap[wr.heap.size]? = some (.cells (lk x) 63 (0, 0))) := by show _ = _; rw [hV]; exact heap_alloc_last _ _
      clear hV y1
      have a1 := (lk_v MV.out).a
      go_wp2_with fail
      refine (HC.out V).mono ?_
      rintro e V1 ⟨rfl, g⟩
      replace GV := Lib.hid (belowT GV.out g)
      clear g a1 MV
      cases c
      · have hR : Hid (r = false) := by
          show r = false
          rw [← Bool.not_eq_true, HR.out]
          intro h
          have := h.1 j hlt
          rw [← HE.out] at this
          rw [decide_eq_true this] at HCc
          cases HCc.out
        go_wp2_with fail
        go_ret
        exact ⟨by rw [hR.out]; first | done | rfl, belowT HBB.out GV.out⟩
      · go_wp2_with fail
        go_roundw
        case rel => exact ⟨j + 1, by omega, by go_num, fun k hk => by
          rcases Nat.lt_succ_iff_lt_or_eq.1 hk with h | rfl
          · exact HX.out k h
          · rw [← HE.out]; exact of_decide_eq_true HCc.out.symm, belowT HBB.out GV.out⟩
        case measure => simp [intOf]; omega
    · obtain rfl : j = n := by omega
      obtain ⟨m, hm⟩ : ∃ m, m = Maps.size (pcD l j) := ⟨_, rfl⟩
      have hR : r = decide (m = j) := by
        rw [Bool.eq_iff_iff, decide_eq_true_iff, HR.out, hm]
        exact ⟨fun h => h.2, fun h => ⟨HX.out, h⟩⟩
      have s1 : ((m : Int) == (j : Int)) = r := by rw [hR, Bool.eq_iff_iff, beq_iff_eq, decide_eq_true_iff]; omega
      have s2 : decide (m = j) = r := hR.symm
      have HM := Lib.hid hm
      clear hlt hR hm
      go_wp2_with fail
      refine (progLinkPlaces_n p j cp l wr (slE_keep HBB.out HS.out) HL.out (by have := HN.out; omega)).mono ?_
      rintro e u ⟨b, rfl, ho, g⟩
      have Le := fun (ty : TypeId) => ho.len Try.underlying78 ty
      rw [← HM.out] at Le
      have G := Lib.hid (belowT HBB.out g)
      clear g ho
      go_wp2_with fail
      go_ret
      exact ⟨rfl, G.out⟩
/-- May, at whatever list of links. -/
theorem linkMay (v : Value) (l : List Lk) (w : World) (h : SlE Elk w v l) :
    Calls Try.prog 23 #[v] w fun e w' => e = .returned (.bool (mayL l)) ∧ Below w.heap.size w w' := by
  have k := h
  obtain ⟨p, cl, rfl, _⟩ := slE_shape h
  by_cases hf : 16 < l.length
  · have e : mayL l = false := by
      rw [← Bool.not_eq_true, mayL_iff]
      intro hm
      omega
    rw [e]
    exact linkMay_far p _ cl w hf
  · exact linkMay_near p _ cl l w k rfl (by omega)
theorem enters_linkMay : ∀ args w, (callFunc 23 args).run Try.prog w = .ok (.enter 23 args) w := entersE Try.func23 (by kernel_rfl) (by kernel_rfl)

end Go.Proofs.Ytlhnjaeocoafnaa
namespace Go.Proofs.Ytlhnjaeocoafnaa
open Go.RowKit
set_option maxRecDepth 100000

def StBitC : Prop := ∀ (v : Int) (w : World), Calls Try.prog 60 #[.int .i64 v] w fun e w' => e = .returned (.int .u64 (bitN v : Int)) ∧ Below w.heap.size w w'
end Go.Proofs.Ytlhnjaeocoafnaa
