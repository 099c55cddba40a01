import Derived.Test.YtmihlihlpdkdcaaGreatK15
import Derived.Maps.OwnOps
import Derived.Test.YtmihlihlpdkdcaaGreatK12
import Derived.Laws.Cover3
import Derived.Test.YtmihlihlpdkdcaaGreatK14
import Derived.Deep.Cut
import Derived.Deep.CutRange
import Derived.Deep.RegionLaw
import Derived.Test.YtmihlihlpdkdcaaGreatQ08
import Derived.Test.YtmihlihlpdkdcaaGreatQ09
namespace Go.Proofs.YtmihlihlpdkdcaaGreat
open Go.RowKit
set_option maxRecDepth 200000
set_option maxHeartbeats 64000000
theorem z1u (s t : Ck) (w : World) :
  Calls Tryz.prog 99 #[.agg (cc s), .agg (cc t)] w fun e w' => e = .returned (.bool (decide (s.epoch.toNat < t.epoch.toNat))) ∧ Below w.heap.size w w' := by
 obtain ⟨W0, hW0⟩ : ∃ W0, W0 = (w.alloc (.cells (cc s) 37)).alloc (.cells (cc t) 37) := ⟨_, rfl⟩
 obtain ⟨hB, m0, m1, _⟩ := zd0 w _ _ _ _ W0 hW0
 have HB := Lib.hid hB
 have HW := Lib.hid hW0
 have a1 := (ck_v m0).e
 have b1 := (ck_v m1).e
 clear hW0 hB m0 m1
 generalize s.epoch.toNat = A at *
 generalize t.epoch.toNat = B at *
 obtain ⟨E, hE⟩ : ∃ E, E = decide (A < B) := ⟨_, rfl⟩
 rw [← hE]
 have t1 : decide ((A : Int) < (B : Int)) = E := by rw [hE]; congr 1; rw [eq_iff_iff]; omega
 have t1' : decide (A < B) = E := hE.symm
 clear hE
 go_enter Tryz.func99, Tryz.ntmps99
 go_upto_region 1 with fail
 rw [← HW.out]
 go_wp2_with fail
 go_ret
 exact ⟨rfl, HB.out⟩
theorem z70 (k : Lk) (w : World) :
  Calls Tryz.prog 100 #[.agg (lk k)] w fun e w' => e = .returned (.agg (ed (edOf k))) ∧ Below w.heap.size w w' := by
 obtain ⟨W0, hW0⟩ : ∃ W0, W0 = (w.alloc (.cells (lk k) 110)).alloc (.cells (ed zed) 139) := ⟨_, rfl⟩
 obtain ⟨hB, m0, m1, hz⟩ := zd0 w _ _ _ _ W0 hW0
 have HB := Lib.hid hB
 have HW := Lib.hid hW0
 have M1 := Lib.hid m1
 have a1 := (lk_v m0).s
 have a2 := (lk_v m0).t
 have z1 := za8 m1 (zj4 _)
 clear hW0 hB m0 m1 hz
 go_enter Tryz.func100, Tryz.ntmps100
 go_upto_region 1 with fail
 rw [← HW.out]
 go_wp2_with fail
 exact bodyPost_ret (zcf Tryz.isAgg139 Tryz.sizeOf139 _ 2 rfl _ _ _ _ rfl (zaf (zby M1.out (by rw [zj4, zj4])) (zj4 _))) rfl ⟨rfl, zav HB.out (Nat.le_succ _)⟩
theorem yau (k : Lk) (w : World) :
  Calls Tryz.prog 72 #[.agg (lk k)] w fun e w' => e = .returned (.bool (decide (okK k))) ∧ Below w.heap.size w w' := by
 obtain ⟨W0, hW0⟩ : ∃ W0, W0 = w.alloc (.cells (lk k) 110) := ⟨_, rfl⟩
 have hB : Below w.heap.size w W0 := by rw [hW0]; exact below1
 have m0 : W0.heap[w.heap.size]? = some (.cells (lk k) 110 (0, 0)) := by rw [hW0]; exact heap_alloc_last w _
 have HB := Lib.hid hB
 have HW := Lib.hid hW0
 have M0 := Lib.hid m0
 have a1 := (lk_v m0).s
 have a2 := (lk_v m0).t
 have HF := Lib.hid (fun W => z1u k.s k.t W)
 obtain ⟨F, hF⟩ : ∃ F, F = decide (k.s.epoch.toNat < k.t.epoch.toNat) := ⟨_, rfl⟩
 rw [← hF] at HF
 obtain ⟨M, hM⟩ : ∃ M, M = k.mask.toNat := ⟨_, rfl⟩
 have HM := Lib.hid hM
 obtain ⟨E1, hE1⟩ : ∃ E, E = decide (0 < M) := ⟨_, rfl⟩
 obtain ⟨E2, hE2⟩ : ∃ E, E = decide (M ≤ 255) := ⟨_, rfl⟩
 have HR : Hid (decide (okK k) = (F && E1 && E2)) := by
  show _ = _
  rw [hF, hE1, hE2, hM, ← Bool.decide_and, ← Bool.decide_and]
  exact decide_eq_decide.2 ⟨fun ⟨a, b, c⟩ => ⟨⟨a, b⟩, c⟩, fun ⟨⟨a, b⟩, c⟩ => ⟨a, b, c⟩⟩
 rw [HR.out]
 have t1 : decide ((0 : Int) < (M : Int)) = E1 := by rw [hE1]; congr 1; rw [eq_iff_iff]; omega
 have t1' : decide (0 < M) = E1 := hE1.symm
 have t2 : decide ((M : Int) ≤ 255) = E2 := by rw [hE2]; congr 1; rw [eq_iff_iff]; omega
 have t2' : decide (M ≤ 255) = E2 := hE2.symm
 clear hW0 hB m0 hF hM hE1 hE2 HR
 go_enter Tryz.func72, Tryz.ntmps72
 go_upto_region 1 with fail
 rw [← HW.out]
 go_wp2_with fail
 refine (HF.out W0).mono ?_
 rintro e w1 ⟨rfl, g⟩
 have G := Lib.hid (zad HB.out g)
 have c1 := (lk_v (zab g M0.out)).m
 rw [← HM.out] at c1
 clear g a1 a2 HF
 cases F <;> cases E1 <;> cases E2 <;> (
  go_wp2_with fail
  go_ret
  exact ⟨rfl, G.out⟩)
section
open Go.Maps
theorem z1q {P : Program} {T k e : TypeId} (hu : P.underlying T = some (.map k e)) (n : Int) (w : World) : (Instr.makeMap T (some (.int .i64 n))).run P w = .ok (.map (some w.heap.size)) (w.alloc (.map #[] 0)) := by
 simp only [Instr.makeMap]
 simp [run_underlying hu, asInt]
 rfl
theorem yc2 (w : World) : (zeroValue 3).run Tryz.prog w = .ok (.int .i64 0) w := by kernel_rfl
theorem yhy {W : World} {b n : Nat} {D : DataW Unit} (h : W.ownsMap Tryz.prog 139 (plainElem Tryz.prog 3) b n D) (r : Ed) : ∃ c : Int,
  (Instr.lookup 112 (.map (some b)) (.agg (ed r)) true).run Tryz.prog W = .ok (.tuple #[.int .i64 c, .bool (Maps.has D (ek r))]) W ∧ D.atKey (ek r) (iLk 0) = iLk c := by
 obtain ⟨v, ps, hrun, hv⟩ := h.look_ok keyed_ed Tryz.underlying112 (yc2 W) (plainElem_int Tryz.underlying3 (by decide)) (zz5 r)
 obtain ⟨a, rfl, hz, _⟩ := plainElem_int_inv Tryz.underlying3 hv
 exact ⟨a, hrun, congrArg Prod.fst hz⟩
theorem yrd {W : World} {b n : Nat} {D : DataW Unit} (h : W.ownsMap Tryz.prog 139 (plainElem Tryz.prog 3) b n D) {r : Ed} {c : Int} (hc : D.atKey (ek r) (iLk 0) = iLk c) :
  (Instr.lookup 112 (.map (some b)) (.agg (ed r)) true).run Tryz.prog W = .ok (.tuple #[.int .i64 c, .bool (Maps.has D (ek r))]) W := by
 obtain ⟨a, h1, h2⟩ := yhy h r
 rw [hc] at h2
 unfold iLk at h2
 injection h2 with h2
 injection h2 with _ h2
 rw [h2]; exact h1
def PlIs (D : DataW Unit) (n : Nat) (w : World) (e : Ending) (w' : World) : Prop := ∃ b, e = .returned (.map (some b)) ∧ w'.ownsMap Tryz.prog 139 (plainElem Tryz.prog 3) b n D ∧ Below w.heap.size w w'
theorem zi7 (p : Option Addr) (n cp : Nat) (l : List Lk) (w : World) (h : SlE Elk w (.slice p n cp) l) (hl : l.length = n) (hn : n ≤ 1000) :
  Calls Tryz.prog 73 #[.slice p n cp] w (PlIs (pcD l n) n w) := by
 have hmm := z1q (P := Tryz.prog) Tryz.underlying112
 have HL := Lib.hid hl
 have HN := Lib.hid hn
 have HS := Lib.hid h
 clear h hl hn
 go_enter Tryz.func73, Tryz.ntmps73
 go_wp2_with fail
 go_loopw [13] (fun i wr => ∃ j : Nat, j ≤ n ∧ i = .int .i64 (j : Int) ∧ wr.ownsMap Tryz.prog 139 (plainElem Tryz.prog 3) w.heap.size j (pcD l j) ∧ Below w.heap.size w wr) (fun i _ => n - (intOf i).toNat)
 case atStart => exact ⟨0, Nat.zero_le _, rfl, World.ownsMap_made _ _ _ _, below1⟩
 case round =>
  obtain ⟨j, hj, rfl, hown, hb⟩ := hrel
  have HO := Lib.hid hown
  have HBB := Lib.hid hb
  clear hown hb
  by_cases hlt : j < n
  ·
   have i0 : (0 : Int) ≤ (j : Int) := by omega
   have i1 : (j : Int) < (n : Int) := by omega
   have u1 : (j : Int) + 1 < 10000 := by have := HN.out; omega
   obtain ⟨b1, o1, rfl, q1, x1⟩ := zjm HS.out (by have := HL.out; omega)
   have y1 := keep HBB.out (zob x1 (i := j) (by have := HL.out; omega))
   clear x1 q1
   obtain ⟨x, hx⟩ : ∃ x, x = lkAt l j := ⟨_, rfl⟩
   rw [← hx] at y1
   have HE : Hid (edAt l j = edOf x) := by show _ = _; rw [hx]; rfl
   clear hx
   go_upto_region 5 with fail
   obtain ⟨V, hV⟩ : ∃ V, V = wr.alloc (.cells (lk x) 110) := ⟨_, rfl⟩
   rw [← hV]
   have GV : Hid (Below wr.heap.size wr V) := by show Below _ _ _; rw [hV]; exact below1
   have MV : Hid (V.heap[wr.heap.size]? = some (.cells (lk x) 110 (0, 0))) := by show _ = _; rw [hV]; exact heap_alloc_last _ _
   clear hV y1
   have a1 := (lk_v MV.out).a
   go_wp2_with fail
   refine (z70 x V).mono ?_
   rintro e V1 ⟨rfl, g⟩
   replace GV := Lib.hid (zad GV.out g)
   replace MV := Lib.hid (zab g MV.out)
   clear g a1
   have a1 := (lk_v MV.out).a
   have HO1 := Lib.hid (zb6 GV.out HO.out)
   obtain ⟨c, Lc, _⟩ := yhy HO1.out (edOf x)
   obtain ⟨q, hq⟩ : ∃ q, q = Maps.has (pcD l j) (ek (edOf x)) := ⟨_, rfl⟩
   rw [← hq] at Lc
   have HQ := Lib.hid hq
   clear hq
   cases q
   ·
    have HP : Hid (pcD l (j + 1) = (pcD l j).put (ek (edOf x)) (iLk j)) := by
     show _ = _
     rw [zwf (by rw [HE.out]; exact HQ.out.symm), HE.out]
    go_wp2_with fail
    clear Lc
    refine (z70 x V1).mono ?_
    rintro e V2 ⟨rfl, g⟩
    replace GV := Lib.hid (zad GV.out g)
    clear g a1 HO1
    have HO1 := Lib.hid (zb6 GV.out HO.out)
    go_wp2_with (at_mapUpdate; refine wpList_mapUpdate_own _ rfl _ _ _ 112 rfl 139 3 keyed_ed Tryz.underlying112 (plainElem Tryz.prog 3) w.heap.size j _ rfl HO1.out (by unfold maxLen; omega) _ _ _ rfl rfl (zz5 (edOf x)) _ [] (plainElem_int Tryz.underlying3 (WalkArith.wf_i64 (by omega))) ?_; intro w1 hown1 hgrow1)
    go_roundw
    case rel => exact ⟨j + 1, by omega, by go_num, by rw [HP.out]; exact hown1, (zad HBB.out GV.out).grown hgrow1 (by have := HBB.out.size; have := GV.out.size; omega) (fun k hk => by cases hk; exact Nat.le_refl _)⟩
    case measure => simp [intOf]; omega
   ·
    have HP : Hid (pcD l (j + 1) = pcD l j) := ztw (by rw [HE.out]; exact HQ.out.symm)
    go_wp2_with fail
    go_roundw
    case rel => exact ⟨j + 1, by omega, by go_num, by rw [HP.out]; exact HO1.out.mono (Nat.le_succ _), zad HBB.out GV.out⟩
    case measure => simp [intOf]; omega
  ·
   obtain rfl : j = n := by omega
   clear hlt
   go_wp2_with fail
   go_ret
   exact ⟨_, rfl, HO.out, HBB.out⟩
theorem zog : ∀ args w, (callFunc 73 args).run Tryz.prog w = .ok (.enter 73 args) w := zbb Tryz.func73 (by kernel_rfl) (by kernel_rfl)
end
section
open Go.Maps
theorem z23 (p : Option Addr) (n cp : Nat) (w : World) (hn : 16 < n) :
  Calls Tryz.prog 44 #[.slice p n cp] w fun e w' => e = .returned (.bool false) ∧ Below w.heap.size w w' := by
 have t1 : decide ((16 : Int) < (n : Int)) = true := by rw [decide_eq_true_iff]; omega
 have t1' : decide (16 < n) = true := decide_eq_true hn
 clear hn
 go_enter Tryz.func44, Tryz.ntmps44
 go_wp2_with fail
 go_ret
 exact ⟨rfl, Below.refl _ _⟩
theorem z2r (p : Option Addr) (n cp : Nat) (l : List Lk) (w : World) (h : SlE Elk w (.slice p n cp) l) (hl : l.length = n) (hn : n ≤ 16) :
  Calls Tryz.prog 44 #[.slice p n cp] w fun e w' => e = .returned (.bool (mayL l)) ∧ Below w.heap.size w w' := by
 have HN := Lib.hid hn
 have HL := Lib.hid hl
 have HS := Lib.hid h
 obtain ⟨r, hr⟩ : ∃ r, r = mayL l := ⟨_, rfl⟩
 rw [← hr]
 have HR : Hid (r = true ↔ (∀ i, i < n → okK (lkAt l i)) ∧ Maps.size (pcD l n) = n) := by
  show _ ↔ _
  rw [hr, zex, yiz, hl]
  exact ⟨fun h => h.1, fun h => ⟨h, hn⟩⟩
 have t1 : decide ((16 : Int) < (n : Int)) = false := by rw [decide_eq_false_iff_not]; omega
 have t1' : decide (16 < n) = false := by rw [decide_eq_false_iff_not]; omega
 clear h hl hn hr
 go_enter Tryz.func44, Tryz.ntmps44
 go_wp2_with fail
 clear t1 t1'
 go_loopw [10] (fun i wr => ∃ j : Nat, j ≤ n ∧ i = .int .i64 (j : Int) ∧ (∀ k, k < j → okK (lkAt l k)) ∧ Below w.heap.size w wr) (fun i _ => n - (intOf i).toNat)
 case atStart => exact ⟨0, Nat.zero_le _, rfl, fun k hk => absurd hk (Nat.not_lt_zero _), Below.refl _ _⟩
 case round =>
  obtain ⟨j, hj, rfl, hx, hb⟩ := hrel
  have HX := Lib.hid hx
  have HBB := Lib.hid hb
  clear hx hb
  by_cases hlt : j < n
  ·
   have i0 : (0 : Int) ≤ (j : Int) := by omega
   have i1 : (j : Int) < (n : Int) := by omega
   have u1 : (j : Int) + 1 < 10000 := by have := HN.out; omega
   obtain ⟨b1, o1, rfl, q1, x1⟩ := zjm HS.out (by have := HL.out; omega)
   have y1 := keep HBB.out (zob x1 (i := j) (by have := HL.out; omega))
   clear x1 q1
   obtain ⟨x, hx⟩ : ∃ x, x = lkAt l j := ⟨_, rfl⟩
   rw [← hx] at y1
   have HE := Lib.hid hx
   have HC := Lib.hid (fun W => yau x W)
   obtain ⟨c, hc⟩ : ∃ c, c = decide (okK x) := ⟨_, rfl⟩
   rw [← hc] at HC
   have HCc := Lib.hid hc
   clear hx hc
   go_upto_region 6 with fail
   obtain ⟨V, hV⟩ : ∃ V, V = wr.alloc (.cells (lk x) 110) := ⟨_, rfl⟩
   rw [← hV]
   have GV : Hid (Below wr.heap.size wr V) := by show Below _ _ _; rw [hV]; exact below1
   have MV : Hid (V.heap[wr.heap.size]? = some (.cells (lk x) 110 (0, 0))) := by show _ = _; rw [hV]; exact heap_alloc_last _ _
   clear hV y1
   have a1 := (lk_v MV.out).a
   go_wp2_with fail
   refine (HC.out V).mono ?_
   rintro e V1 ⟨rfl, g⟩
   replace GV := Lib.hid (zad GV.out g)
   clear g a1 MV
   cases c
   ·
    have hR : Hid (r = false) := by
     show r = false
     rw [← Bool.not_eq_true, HR.out]
     intro h
     have := h.1 j hlt
     rw [← HE.out] at this
     rw [decide_eq_true this] at HCc
     cases HCc.out
    go_wp2_with fail
    go_ret
    exact ⟨by rw [hR.out]; first | done | rfl, zad HBB.out GV.out⟩
   ·
    go_wp2_with fail
    go_roundw
    case rel => exact ⟨j + 1, by omega, by go_num, fun k hk => by
     rcases Nat.lt_succ_iff_lt_or_eq.1 hk with h | rfl
     ·
      exact HX.out k h
     ·
      rw [← HE.out]; exact of_decide_eq_true HCc.out.symm, zad HBB.out GV.out⟩
    case measure => simp [intOf]; omega
  ·
   obtain rfl : j = n := by omega
   obtain ⟨m, hm⟩ : ∃ m, m = Maps.size (pcD l j) := ⟨_, rfl⟩
   have hR : r = decide (m = j) := by
    rw [Bool.eq_iff_iff, decide_eq_true_iff, HR.out, hm]
    exact ⟨fun h => h.2, fun h => ⟨HX.out, h⟩⟩
   have s1 : ((m : Int) == (j : Int)) = r := by rw [hR, Bool.eq_iff_iff, beq_iff_eq, decide_eq_true_iff]; omega
   have s2 : decide (m = j) = r := hR.symm
   have HM := Lib.hid hm
   clear hlt hR hm
   go_wp2_with fail
   refine (zi7 p j cp l wr (zac HBB.out HS.out) HL.out (by have := HN.out; omega)).mono ?_
   rintro e u ⟨b, rfl, ho, g⟩
   have Le := fun (ty : TypeId) => ho.len Tryz.underlying112 ty
   rw [← HM.out] at Le
   have G := Lib.hid (zad HBB.out g)
   clear g ho
   go_wp2_with fail
   go_ret
   exact ⟨rfl, G.out⟩
theorem z4l (v : Value) (l : List Lk) (w : World) (h : SlE Elk w v l) :
  Calls Tryz.prog 44 #[v] w fun e w' => e = .returned (.bool (mayL l)) ∧ Below w.heap.size w w' := by
 have k := h
 obtain ⟨p, cl, rfl, _⟩ := zaj h
 by_cases hf : 16 < l.length
 ·
  have e : mayL l = false := by
   rw [← Bool.not_eq_true, zex]
   intro hm
   omega
  rw [e]
  exact z23 p _ cl w hf
 ·
  exact z2r p _ cl l w k rfl (by omega)
end
theorem z95 (p q : Option Addr) (n m cl ck : Nat) (w : World) (hl : n ≠ m) :
  Calls Tryz.prog 89 #[.slice p n cl, .slice q m ck] w fun e w' => e = .returned (.bool false) ∧ Below w.heap.size w w' := by
 have e1 : ((n : Int) == (m : Int)) = false := by simp; omega
 clear hl
 go_enter Tryz.func89, Tryz.ntmps89
 go_wp2_with fail
 go_ret
 exact ⟨rfl, Below.refl _ _⟩
theorem ybq (p q : Option Addr) (n cl ck : Nat) (l k : List Lk) (w : World) (h : SlE Elk w (.slice p n cl) l) (h' : SlE Elk w (.slice q n ck) k) (hl : l.length = n) (hk : k.length = n) (hn : n ≤ 1000) :
  Calls Tryz.prog 89 #[.slice p n cl, .slice q n ck] w fun e w' => e = .returned (.bool (decide (l = k))) ∧ Below w.heap.size w w' := by
 have HS := Lib.hid h
 have HT := Lib.hid h'
 have HL := Lib.hid hl
 have HK := Lib.hid hk
 have HN := Lib.hid hn
 obtain ⟨r, hr⟩ : ∃ r, r = decide (l = k) := ⟨_, rfl⟩
 rw [← hr]
 have HR := Lib.hid hr
 clear h h' hl hk hn hr
 go_enter Tryz.func89, Tryz.ntmps89
 go_wp2_with fail
 go_loopw [5, 13] (fun _ i wr => ∃ j : Nat, j ≤ n ∧ i = .int .i64 j ∧ (∀ x, x < j → lkAt l x = lkAt k x) ∧ Below w.heap.size w wr) (fun _ i _ => n - (intOf i).toNat)
 case atStart => exact ⟨0, Nat.zero_le _, rfl, fun x hx => absurd hx (Nat.not_lt_zero _), Below.refl _ _⟩
 case round =>
  obtain ⟨j, hj, rfl, hx, hb⟩ := hrel
  have HX := Lib.hid hx
  have HB := Lib.hid hb
  clear hx hb
  by_cases hlt : j < n
  ·
   have i0 : (0 : Int) ≤ (j : Int) := by omega
   have i1 : (j : Int) < (n : Int) := by omega
   have u1 : (j : Int) + 1 < 10000 := by have := HN.out; omega
   obtain ⟨b1, o1, c1, e1, _, q1, x1⟩ := zc8 HS.out (by have := HL.out; omega)
   injection e1 with e2 _ e3
   subst e2 e3
   obtain ⟨b2, o2, c2, e1, _, q2, x2⟩ := zc8 HT.out (by have := HK.out; omega)
   injection e1 with e2 _ e3
   subst e2 e3
   have y1 : ldA wr (.pointer (some ⟨b1, o1 + j * 67, none⟩)) 67 = some (lk (lkAt l j)) := keep HB.out (zob x1 (by have := HL.out; omega))
   have y2 : ldA wr (.pointer (some ⟨b2, o2 + j * 67, none⟩)) 67 = some (lk (lkAt k j)) := keep HB.out (zob x2 (by have := HK.out; omega))
   clear x1 x2 q1 q2
   by_cases he : lkAt l j = lkAt k j
   ·
    have HE := Lib.hid he
    rw [he] at y1
    clear he
    go_wp2_with fail
    go_quiet (fail)
    go_wp2_with fail
    go_roundw
    case rel => exact ⟨j + 1, by omega, by go_num, fun x hx => by
     rcases Nat.lt_succ_iff_lt_or_eq.1 hx with h | rfl
     ·
      exact HX.out x h
     ·
      exact HE.out, zap HB.out _⟩
    case measure => simp [intOf]; omega
   ·
    have hR : Hid (r = false) := by
     show r = false
     rw [HR.out, decide_eq_false_iff_not]
     intro e; exact he (by rw [e])
    have t1 : decide (lkAt l j = lkAt k j) = false := decide_eq_false he
    clear he
    go_wp2_with fail
    go_quiet (fail)
    go_wp2_with fail
    go_ret
    exact ⟨by rw [hR.out]; first | done | rfl, zap HB.out _⟩
  ·
   obtain rfl : j = n := by omega
   have hR : Hid (r = true) := by
    show r = true
    rw [HR.out, decide_eq_true_iff]
    exact ygc (by rw [HL.out, HK.out]) fun i hi => HX.out i (by have := HK.out; omega)
   go_wp2_with fail
   go_ret
   exact ⟨by rw [hR.out]; first | done | rfl, HB.out⟩
theorem yqf (v u : Value) (l k : List Lk) (w : World) (h : SlE Elk w v l) (h' : SlE Elk w u k) (hn : l.length ≤ 1000) :
  Calls Tryz.prog 89 #[v, u] w fun e w' => e = .returned (.bool (decide (l = k))) ∧ Below w.heap.size w w' := by
 have hs := h
 have ht := h'
 obtain ⟨p, cl, rfl, _⟩ := zaj h
 obtain ⟨q, ck, rfl, _⟩ := zaj h'
 by_cases e : l.length = k.length
 ·
  rw [← e] at ht ⊢
  exact ybq p q l.length cl ck l k w hs ht rfl e.symm hn
 ·
  rw [decide_eq_false (fun he => e (by rw [he]))]
  exact z95 p q _ _ cl ck w e
section
open Go.Maps
theorem yme (u v : Value) (a b : List Lk) (w : World) (h : SlE Elk w u a) (k : SlE Elk w v b) (hn : a.length ≤ 1000) :
  Calls Tryz.prog 57 #[u, v] w fun e w' => e = .returned (.bool (decide (a = b))) ∧ Below w.heap.size w w' := by
 have HC := Lib.hid (yqf u v a b w h k hn)
 generalize decide (a = b) = r at *
 clear h k
 go_enter Tryz.func57, Tryz.ntmps57
 go_wp2_with fail
 refine HC.out.mono ?_
 rintro e w1 ⟨rfl, g⟩
 have G := Lib.hid g
 clear g
 go_wp2_with fail
 go_ret
 exact ⟨rfl, G.out⟩
end
theorem z9b (p q : Option Addr) (n m cl ck : Nat) (w : World) (hl : n ≠ m) :
  Calls Tryz.prog 58 #[.slice p n cl, .slice q m ck] w fun e w' => e = .returned (.bool false) ∧ Below w.heap.size w w' := by
 have e1 : ((n : Int) == (m : Int)) = false := by simp; omega
 clear hl
 go_enter Tryz.func58, Tryz.ntmps58
 go_wp2_with fail
 go_ret
 exact ⟨rfl, Below.refl _ _⟩
theorem z80 (p q : Option Addr) (n cl ck : Nat) (l k : List Ck) (w : World) (h : SlE Ecc w (.slice p n cl) l) (h' : SlE Ecc w (.slice q n ck) k) (hl : l.length = n) (hk : k.length = n) (hn : n ≤ 1000) :
  Calls Tryz.prog 58 #[.slice p n cl, .slice q n ck] w fun e w' => e = .returned (.bool (decide (l = k))) ∧ Below w.heap.size w w' := by
 have HS := Lib.hid h
 have HT := Lib.hid h'
 have HL := Lib.hid hl
 have HK := Lib.hid hk
 have HN := Lib.hid hn
 obtain ⟨r, hr⟩ : ∃ r, r = decide (l = k) := ⟨_, rfl⟩
 rw [← hr]
 have HR := Lib.hid hr
 clear h h' hl hk hn hr
 go_enter Tryz.func58, Tryz.ntmps58
 go_wp2_with fail
 go_loopw [5, 13] (fun _ i wr => ∃ j : Nat, j ≤ n ∧ i = .int .i64 j ∧ (∀ x, x < j → ckAt l x = ckAt k x) ∧ Below w.heap.size w wr) (fun _ i _ => n - (intOf i).toNat)
 case atStart => exact ⟨0, Nat.zero_le _, rfl, fun x hx => absurd hx (Nat.not_lt_zero _), Below.refl _ _⟩
 case round =>
  obtain ⟨j, hj, rfl, hx, hb⟩ := hrel
  have HX := Lib.hid hx
  have HB := Lib.hid hb
  clear hx hb
  by_cases hlt : j < n
  ·
   have i0 : (0 : Int) ≤ (j : Int) := by omega
   have i1 : (j : Int) < (n : Int) := by omega
   have u1 : (j : Int) + 1 < 10000 := by have := HN.out; omega
   obtain ⟨b1, o1, c1, e1, _, q1, x1⟩ := zc8 HS.out (by have := HL.out; omega)
   injection e1 with e2 _ e3
   subst e2 e3
   obtain ⟨b2, o2, c2, e1, _, q2, x2⟩ := zc8 HT.out (by have := HK.out; omega)
   injection e1 with e2 _ e3
   subst e2 e3
   have y1 : ldA wr (.pointer (some ⟨b1, o1 + j * 33, none⟩)) 33 = some (cc (ckAt l j)) := keep HB.out (zkh x1 (by have := HL.out; omega))
   have y2 : ldA wr (.pointer (some ⟨b2, o2 + j * 33, none⟩)) 33 = some (cc (ckAt k j)) := keep HB.out (zkh x2 (by have := HK.out; omega))
   clear x1 x2 q1 q2
   by_cases he : ckAt l j = ckAt k j
   ·
    have HE := Lib.hid he
    rw [he] at y1
    clear he
    go_wp2_with fail
    go_quiet (fail)
    go_wp2_with fail
    go_roundw
    case rel => exact ⟨j + 1, by omega, by go_num, fun x hx => by
     rcases Nat.lt_succ_iff_lt_or_eq.1 hx with h | rfl
     ·
      exact HX.out x h
     ·
      exact HE.out, zap HB.out _⟩
    case measure => simp [intOf]; omega
   ·
    have hR : Hid (r = false) := by
     show r = false
     rw [HR.out, decide_eq_false_iff_not]
     intro e; exact he (by rw [e])
    have t1 : decide (ckAt l j = ckAt k j) = false := decide_eq_false he
    clear he
    go_wp2_with fail
    go_quiet (fail)
    go_wp2_with fail
    go_ret
    exact ⟨by rw [hR.out]; first | done | rfl, zap HB.out _⟩
  ·
   obtain rfl : j = n := by omega
   have hR : Hid (r = true) := by
    show r = true
    rw [HR.out, decide_eq_true_iff]
    exact ypp (by rw [HL.out, HK.out]) fun i hi => HX.out i (by have := HK.out; omega)
   go_wp2_with fail
   go_ret
   exact ⟨by rw [hR.out]; first | done | rfl, HB.out⟩
theorem yqp (v u : Value) (l k : List Ck) (w : World) (h : SlE Ecc w v l) (h' : SlE Ecc w u k) (hn : l.length ≤ 1000) :
  Calls Tryz.prog 58 #[v, u] w fun e w' => e = .returned (.bool (decide (l = k))) ∧ Below w.heap.size w w' := by
 have hs := h
 have ht := h'
 obtain ⟨p, cl, rfl, _⟩ := zaj h
 obtain ⟨q, ck, rfl, _⟩ := zaj h'
 by_cases e : l.length = k.length
 ·
  rw [← e] at ht ⊢
  exact z80 p q l.length cl ck l k w hs ht rfl e.symm hn
 ·
  rw [decide_eq_false (fun he => e (by rw [he]))]
  exact z9b p q _ _ cl ck w e
theorem z26 (x y : En) (g f : Eg) (w : World) (h : LaidG w x g) (h' : LaidG w y f) (sg : zbz g) :
  Calls Tryz.prog 18 #[.agg (en x), .agg (en y)] w fun e w' => e = .returned (.bool (decide (g = f))) ∧ Below w.heap.size w w' := by
 obtain ⟨W0, hW0⟩ : ∃ W0, W0 = (w.alloc (.cells (en x) 39)).alloc (.cells (en y) 39) := ⟨_, rfl⟩
 obtain ⟨hB, q0, q1, _⟩ := zd0 w _ _ _ _ W0 hW0
 have A : Hid (Gv w W0 w.heap.size x g) := ⟨q0, h.keep hB, hB⟩
 have B : Hid (Gv w W0 (w.heap.size + 1) y f) := ⟨q1, h'.keep hB, hB⟩
 have HW := Lib.hid hW0
 have H1 := Lib.hid (fun W a b => yix x.t.n y.t.n g.t f.t W a b sg.t)
 have H2 := Lib.hid (fun W a b => z6u (sv x.bal) (sv y.bal) g.bal f.bal W a b sg.bal)
 have H3 := Lib.hid (fun W a b => yim x.v.l y.v.l g.v f.v W a b sg.v)
 have H4 := Lib.hid (fun W a b => zoo (sv x.w) (sv y.w) g.w f.w W a b sg.w)
 have H5 := Lib.hid (fun W a b => yl1 (sv x.late) (sv y.late) g.late f.late W a b sg.late)
 have H6 := Lib.hid (fun W a b => yme (sv x.k) (sv y.k) g.k f.k W a b sg.k)
 have H7 := Lib.hid (fun W a b => yqp (sv x.j) (sv y.j) g.j f.j W a b sg.j)
 obtain ⟨a1, e1⟩ : ∃ a, a = decide (g.t = f.t) := ⟨_, rfl⟩
 obtain ⟨a2, e2⟩ : ∃ a, a = decide (g.bal = f.bal) := ⟨_, rfl⟩
 obtain ⟨a3, e3⟩ : ∃ a, a = decide (g.v = f.v) := ⟨_, rfl⟩
 obtain ⟨a4, e4⟩ : ∃ a, a = decide (g.w = f.w) := ⟨_, rfl⟩
 obtain ⟨a5, e5⟩ : ∃ a, a = decide (g.late = f.late) := ⟨_, rfl⟩
 obtain ⟨a6, e6⟩ : ∃ a, a = decide (g.k = f.k) := ⟨_, rfl⟩
 obtain ⟨a7, e7⟩ : ∃ a, a = decide (g.j = f.j) := ⟨_, rfl⟩
 obtain ⟨a8, e8⟩ : ∃ a, a = decide (g.fin = f.fin) := ⟨_, rfl⟩
 obtain ⟨a9, e9⟩ : ∃ a, a = ((g.now.toNat : Int) == (f.now.toNat : Int)) := ⟨_, rfl⟩
 have HF : Hid (decide (g = f) = (a1 && (a2 && (a3 && (a4 && (a5 && (a6 && (a7 && (a8 && a9))))))))) := by
  show _ = _
  rw [e1, e2, e3, e4, e5, e6, e7, e8, e9, Bool.eq_iff_iff]
  simp only [Bool.and_eq_true, decide_eq_true_iff, beq_iff_eq]
  constructor
  ·
   rintro rfl; exact ⟨rfl, rfl, rfl, rfl, rfl, rfl, rfl, rfl, rfl⟩
  ·
   rintro ⟨h1, h2, h3, h4, h5, h6, h7, h8, h9⟩
   exact Eg.ext h1 h2 h3 h4 h5 h6 h7 h8 (UInt64.toNat_inj.1 (by omega))
 have t9 : (g.now.toNat == f.now.toNat) = a9 := by rw [e9, Bool.eq_iff_iff, beq_iff_eq, beq_iff_eq]; omega
 have t9' : decide (g.now.toNat = f.now.toNat) = a9 := by rw [e9, Bool.eq_iff_iff, decide_eq_true_iff, beq_iff_eq]; omega
 have t9i := e9.symm
 have t8 := e8.symm
 rw [← e1] at H1
 rw [← e2] at H2
 rw [← e3] at H3
 rw [← e4] at H4
 rw [← e5] at H5
 rw [← e6] at H6
 rw [← e7] at H7
 obtain ⟨r, hr⟩ : ∃ r, r = decide (g = f) := ⟨_, rfl⟩
 rw [← hr] at HF ⊢
 clear hW0 hB q0 q1 h h' sg e1 e2 e3 e4 e5 e6 e7 e8 e9 hr
 go_enter Tryz.func18, Tryz.ntmps18
 go_upto_region 1 with fail
 rw [← HW.out]
 have za := A.out.zT
 have zc := B.out.zT
 go_wp2_with fail
 refine (H1.out _ A.out.l.t B.out.l.t).mono ?_
 rintro e w1 ⟨rfl, gg⟩
 replace A := Lib.hid (A.out.keep gg)
 replace B := Lib.hid (B.out.keep gg)
 clear za zc gg H1
 cases a1
 ·
  go_wp2_with fail
  go_ret
  exact ⟨by rw [HF.out]; first | done | rfl, A.out.g⟩
 have za := A.out.zb
 have zc := B.out.zb
 go_wp2_with fail
 refine (H2.out _ A.out.l.bal B.out.l.bal).mono ?_
 rintro e w2 ⟨rfl, gg⟩
 replace A := Lib.hid (A.out.keep gg)
 replace B := Lib.hid (B.out.keep gg)
 clear za zc gg H2
 cases a2
 ·
  go_wp2_with fail
  go_ret
  exact ⟨by rw [HF.out]; first | done | rfl, A.out.g⟩
 have za := A.out.zV
 have zc := B.out.zV
 go_wp2_with fail
 refine (H3.out _ A.out.l.v B.out.l.v).mono ?_
 rintro e w3 ⟨rfl, gg⟩
 replace A := Lib.hid (A.out.keep gg)
 replace B := Lib.hid (B.out.keep gg)
 clear za zc gg H3
 cases a3
 ·
  go_wp2_with fail
  go_ret
  exact ⟨by rw [HF.out]; first | done | rfl, A.out.g⟩
 have za := A.out.zw
 have zc := B.out.zw
 go_wp2_with fail
 refine (H4.out _ A.out.l.w B.out.l.w).mono ?_
 rintro e w4 ⟨rfl, gg⟩
 replace A := Lib.hid (A.out.keep gg)
 replace B := Lib.hid (B.out.keep gg)
 clear za zc gg H4
 cases a4
 ·
  go_wp2_with fail
  go_ret
  exact ⟨by rw [HF.out]; first | done | rfl, A.out.g⟩
 have za := A.out.zl
 have zc := B.out.zl
 go_wp2_with fail
 refine (H5.out _ A.out.l.late B.out.l.late).mono ?_
 rintro e w5 ⟨rfl, gg⟩
 replace A := Lib.hid (A.out.keep gg)
 replace B := Lib.hid (B.out.keep gg)
 clear za zc gg H5
 cases a5
 ·
  go_wp2_with fail
  go_ret
  exact ⟨by rw [HF.out]; first | done | rfl, A.out.g⟩
 have za := A.out.zk
 have zc := B.out.zk
 go_wp2_with fail
 refine (H6.out _ A.out.l.k B.out.l.k).mono ?_
 rintro e w6 ⟨rfl, gg⟩
 replace A := Lib.hid (A.out.keep gg)
 replace B := Lib.hid (B.out.keep gg)
 clear za zc gg H6
 cases a6
 ·
  go_wp2_with fail
  go_ret
  exact ⟨by rw [HF.out]; first | done | rfl, A.out.g⟩
 have za := A.out.zj
 have zc := B.out.zj
 go_wp2_with fail
 refine (H7.out _ A.out.l.j B.out.l.j).mono ?_
 rintro e w7 ⟨rfl, gg⟩
 replace A := Lib.hid (A.out.keep gg)
 replace B := Lib.hid (B.out.keep gg)
 clear za zc gg H7
 cases a7
 ·
  go_wp2_with fail
  go_ret
  exact ⟨by rw [HF.out]; first | done | rfl, A.out.g⟩
 have za := A.out.zf
 have zc := B.out.zf
 cases a8
 ·
  go_wp2_with fail
  go_ret
  exact ⟨by rw [HF.out]; first | done | rfl, A.out.g⟩
 have zn := A.out.zn
 have zm := B.out.zn
 go_wp2_with fail
 go_ret
 exact ⟨by rw [HF.out]; first | done | rfl, A.out.g⟩
open Go.RowKit
def FarE {α : Type} (T : Nat) (s : SlV) (l : List α) : Prop := l = [] ∨ (sv s).ownBlock ≠ some T
section
variable {α : Type} {E : Lie α} {W : World} {T : Nat} {s : SlV} {l : List α}
theorem zk9 {base : Nat} (h : OwnE E W base (sv s) l) (hT : T < base) : FarE T s l := .inr fun e => by
 have := (h.lt T e).1
 omega
theorem zci {W' : World} (h : SlE E W (sv s) l) (hf : FarE T s l) (hz : W.heap.size ≤ W'.heap.size) (hb : ∀ k, k ≠ T → W'.heap[k]? = W.heap[k]?) : SlE E W' (sv s) l := by
 rcases hf with rfl | hf
 ·
  obtain ⟨p, cap, e, _⟩ := zaj h
  rw [e]
  exact zbt _ _ _ _
 ·
  exact ze5 h hz (fun k _ hk => hb k (fun e => hf (by rw [hk, e])))
end
def z5x : Value → Bool
 | .slice _ _ _ => true
 | .int .u64 _ => true
 | .int .u8 _ => true
 | _ => false
theorem yec (r : Rt) : ∀ v ∈ (rc r).toList, z5x v = true := by
 intro v hv
 obtain ⟨i, hi, rfl⟩ := List.getElem_of_mem hv
 have h1 : i < 32 := by rw [Array.length_toList, zar] at hi; exact hi
 rw [Array.getElem_toList, zos]; rfl
theorem yes (c : Ck) : ∀ v ∈ (cc c).toList, z5x v = true := by
 intro v hv
 rw [zb3] at hv
 unfold ccL at hv
 simp only [List.mem_append, List.mem_singleton] at hv
 rcases hv with rfl | hv
 ·
  rfl
 ·
  exact yec _ v hv
theorem ycc (x : En) : ∀ v ∈ enL x, z5x v = true := by
 intro v hv
 unfold enL at hv
 simp only [List.mem_append, List.mem_singleton] at hv
 rcases hv with hv | rfl | hv | rfl | rfl | rfl | rfl | hv | rfl
 ·
  rw [zmf] at hv; unfold trL at hv; simp at hv; subst hv; rfl
 ·
  rfl
 ·
  rw [zsk] at hv; unfold voL at hv; simp at hv; rcases hv with rfl | rfl <;> rfl
 ·
  rfl
 ·
  rfl
 ·
  rfl
 ·
  rfl
 ·
  exact yes _ v hv
 ·
  rfl
section
variable {α : Type} {E : Lie α} {W : World} {T : Nat} {s : SlV} {l : List α} {x : En}
theorem zq2 (hx : W.heap[T]? = some (.cells (en x) 39 (0, 0))) (h : SlE E W (sv s) l) (hbad : 42 < E.n ∨ ∀ a, ∃ (i : Nat) (v : Value), (E.enc a)[i]? = some v ∧ z5x v = false) : FarE T s l := by
 by_cases h0 : l = []
 ·
  exact .inl h0
 refine .inr fun e => ?_
 obtain ⟨b, o, c, e1, _, hb, hr⟩ := zc8 h (List.length_pos_iff.2 h0)
 rw [e1] at e
 obtain rfl : b = T := Option.some.inj e
 have hl : 0 < l.length := List.length_pos_iff.2 h0
 have hc : ∀ (i : Nat) (v : Value), (E.enc l[0])[i]? = some v → ∃ q, (en x)[q]? = some v ∧ o + i = q := fun i v hv => by
  have := z4v hr hl hv
  rw [cell_of_row _ _ _ _ _ _ hx, Nat.zero_mul, Nat.add_zero] at this
  exact ⟨_, this, rfl⟩
 rcases hbad with hn | hbad
 ·
  have hi : E.n - 1 < (E.enc l[0]).length := by rw [E.len]; omega
  obtain ⟨q, h1, h2⟩ := hc (E.n - 1) _ (List.getElem?_eq_getElem hi)
  have := (Array.getElem?_eq_some_iff.1 h1).1
  rw [zas] at this
  omega
 ·
  obtain ⟨i, v, hv, hb⟩ := hbad l[0]
  obtain ⟨q, h1, _⟩ := hc i v hv
  have hm : v ∈ enL x := by
   rw [← z3h]
   exact List.mem_of_getElem? (by rw [Array.getElem?_toList]; exact h1)
  rw [ycc x v hm] at hb
  cases hb
end
section
variable {W : World} {T : Nat} {s : SlV} {x : En}
theorem z6y {l : List Lk} (hx : W.heap[T]? = some (.cells (en x) 39 (0, 0))) (h : SlE Elk W (sv s) l) : FarE T s l := zq2 hx h (.inl (by decide))
theorem zj9 {l : List Aa} (hx : W.heap[T]? = some (.cells (en x) 39 (0, 0))) (h : SlE Eaa W (sv s) l) : FarE T s l := zq2 hx h (.inl (by decide))
theorem z0t {l : List Lt} (hx : W.heap[T]? = some (.cells (en x) 39 (0, 0))) (h : SlE Elt W (sv s) l) : FarE T s l := zq2 hx h (.inr fun a => ⟨0, .bool a.has, rfl, rfl⟩)
theorem yb9 {l : List Nd} (hx : W.heap[T]? = some (.cells (en x) 39 (0, 0))) (h : SlE Ene W (sv s) l) : FarE T s l := zq2 hx h (.inr fun a => ⟨32, .int .i64 a.parent, by
 show (neL a)[32]? = _
 unfold neL
 rw [List.getElem?_append_right (by simp [zar])]
 simp [zar], rfl⟩)
end
structure FarG (T : Nat) (x : En) (g : Eg) : Prop where
 t : FarE T x.t.n g.t
 bal : FarE T x.bal g.bal
 v : FarE T x.v.l g.v.l
 w : FarE T x.w g.w
 late : FarE T x.late g.late
 k : FarE T x.k g.k
 j : FarE T x.j g.j
structure Gs (w W : World) (T : Nat) (x : En) (g : Eg) : Prop where
 box : W.heap[T]? = some (.cells (en x) 39 (0, 0))
 l : LaidG W x g
 bw : Below w.heap.size w W
 f : FarG T x g
 lo : w.heap.size ≤ T
section
variable {w W W' : World} {T : Nat} {x : En} {g : Eg}
theorem Gs.v (h : Gs w W T x g) : Gv w W T x g := ⟨h.box, h.l, h.bw⟩
theorem Gs.keep (h : Gs w W T x g) (b : Below W.heap.size W W') : Gs w W' T x g := ⟨zab b h.box, h.l.keep b, zad h.bw b, h.f, h.lo⟩
theorem LaidG.put (h : LaidG W x g) (f : FarG T x g) (hz : W.heap.size ≤ W'.heap.size) (hb : ∀ k, k ≠ T → W'.heap[k]? = W.heap[k]?) : LaidG W' x g :=
 ⟨zci h.t f.t hz hb, zci h.bal f.bal hz hb, zci h.v f.v hz hb, zci h.w f.w hz hb, zci h.late f.late hz hb, zci h.k f.k hz hb, zci h.j f.j hz hb, h.out, h.fin, h.now⟩
theorem zbl (v : Value) (o : Nat) : W.heap.size ≤ (W.setCell ⟨T, o, none⟩ v).heap.size := Nat.le_of_eq (by simp [World.setCell])
theorem zba (v : Value) (o : Nat) : ∀ k, k ≠ T → (W.setCell ⟨T, o, none⟩ v).heap[k]? = W.heap[k]? := fun _ hk => Below.heap_setCell _ _ _ _ hk
theorem zd1 (v : Value) (o : Nat) : W.heap.size ≤ (stA W (.pointer (some ⟨T, o, none⟩)) v).heap.size := by rw [zmr]; exact Nat.le_refl _
theorem zb1 (v : Value) (o : Nat) : ∀ k, k ≠ T → (stA W (.pointer (some ⟨T, o, none⟩)) v).heap[k]? = W.heap[k]? := fun _ hk => zc0 hk
theorem Gs.putK (h : Gs w W T x g) {s : SlV} {l : List Lk} (hs : SlE Elk W (sv s) l) : Gs w (W.setCell ⟨T, 6, none⟩ (sv s)) T { x with k := s } { g with k := l } := by
 have f := z6y h.box hs
 have l1 := h.l.put h.f (zbl (sv s) 6) (zba (sv s) 6)
 refine ⟨by rw [zaq h.box 6 (sv s), zzb], ⟨l1.t, l1.bal, l1.v, l1.w, l1.late, zci hs f (zbl _ _) (zba _ _), l1.j, l1.out, l1.fin, l1.now⟩, h.bw.setCell (p := ⟨T, 6, none⟩) h.lo _, ⟨h.f.t, h.f.bal, h.f.v, h.f.w, h.f.late, f, h.f.j⟩, h.lo⟩
theorem Gs.putLate (h : Gs w W T x g) {s : SlV} {l : List Aa} (hs : SlE Eaa W (sv s) l) : Gs w (W.setCell ⟨T, 5, none⟩ (sv s)) T { x with late := s } { g with late := l } := by
 have f := zj9 h.box hs
 have l1 := h.l.put h.f (zbl (sv s) 5) (zba (sv s) 5)
 refine ⟨by rw [zaq h.box 5 (sv s), zsg], ⟨l1.t, l1.bal, l1.v, l1.w, zci hs f (zbl _ _) (zba _ _), l1.k, l1.j, l1.out, l1.fin, l1.now⟩, h.bw.setCell (p := ⟨T, 5, none⟩) h.lo _, ⟨h.f.t, h.f.bal, h.f.v, h.f.w, f, h.f.k, h.f.j⟩, h.lo⟩
theorem Gs.putW (h : Gs w W T x g) {s : SlV} {l : List UInt64} (hs : SlE Enum W (sv s) l) (f : FarE T s l) : Gs w (W.setCell ⟨T, 4, none⟩ (sv s)) T { x with w := s } { g with w := l } := by
 have l1 := h.l.put h.f (zbl (sv s) 4) (zba (sv s) 4)
 refine ⟨by rw [zaq h.box 4 (sv s), zx4], ⟨l1.t, l1.bal, l1.v, zci hs f (zbl _ _) (zba _ _), l1.late, l1.k, l1.j, l1.out, l1.fin, l1.now⟩, h.bw.setCell (p := ⟨T, 4, none⟩) h.lo _, ⟨h.f.t, h.f.bal, h.f.v, f, h.f.late, h.f.k, h.f.j⟩, h.lo⟩
theorem Gs.putJ (h : Gs w W T x g) {s : SlV} {l : List Ck} (hs : SlE Ecc W (sv s) l) (f : FarE T s l) : Gs w (W.setCell ⟨T, 7, none⟩ (sv s)) T { x with j := s } { g with j := l } := by
 have l1 := h.l.put h.f (zbl (sv s) 7) (zba (sv s) 7)
 refine ⟨by rw [zaq h.box 7 (sv s), zw2], ⟨l1.t, l1.bal, l1.v, l1.w, l1.late, l1.k, zci hs f (zbl _ _) (zba _ _), l1.out, l1.fin, l1.now⟩, h.bw.setCell (p := ⟨T, 7, none⟩) h.lo _, ⟨h.f.t, h.f.bal, h.f.v, h.f.w, h.f.late, h.f.k, f⟩, h.lo⟩
theorem Gs.putNow (h : Gs w W T x g) (n : UInt64) : Gs w (W.setCell ⟨T, 41, none⟩ (.int .u64 (n.toNat : Int))) T { x with now := n } { g with now := n } := by
 have l1 := h.l.put h.f (zbl (num n) 41) (zba (num n) 41)
 refine ⟨by rw [zaq h.box 41 _]; exact congrArg (fun c => some (Obj.cells c _ _)) (yaq x n), ⟨l1.t, l1.bal, l1.v, l1.w, l1.late, l1.k, l1.j, l1.out, l1.fin, rfl⟩, h.bw.setCell (p := ⟨T, 41, none⟩) h.lo _, ⟨h.f.t, h.f.bal, h.f.v, h.f.w, h.f.late, h.f.k, h.f.j⟩, h.lo⟩
theorem Gs.putV (h : Gs w W T x g) {s : SlV} {v : Vt} (hs : SlE Elt W (sv s) v.l) : Gs w (stA W (.pointer (some ⟨T, 2, none⟩)) (.agg (vo ⟨s, v.out⟩))) T { x with v := ⟨s, v.out⟩ } { g with v := v } := by
 have f := z0t h.box hs
 have l1 := h.l.put h.f (zd1 (.agg (vo ⟨s, v.out⟩)) 2) (zb1 (.agg (vo ⟨s, v.out⟩)) 2)
 refine ⟨by rw [zbu h.box (by rw [zaz, zas]; decide), zxa], ⟨l1.t, l1.bal, zci hs f (zd1 _ _) (zb1 _ _), l1.w, l1.late, l1.k, l1.j, rfl, l1.fin, l1.now⟩, zav h.bw h.lo, ⟨h.f.t, h.f.bal, f, h.f.w, h.f.late, h.f.k, h.f.j⟩, h.lo⟩
theorem Gs.putT (h : Gs w W T x g) {s : SlV} {l : List Nd} (hs : SlE Ene W (sv s) l) : Gs w (stA W (.pointer (some ⟨T, 0, none⟩)) (.agg (tr ⟨s⟩))) T { x with t := ⟨s⟩ } { g with t := l } := by
 have f := yb9 h.box hs
 have l1 := h.l.put h.f (zd1 (.agg (tr ⟨s⟩)) 0) (zb1 (.agg (tr ⟨s⟩)) 0)
 refine ⟨by rw [zbu h.box (by rw [zbf, zas]; decide), zws], ⟨zci hs f (zd1 _ _) (zb1 _ _), l1.bal, l1.v, l1.w, l1.late, l1.k, l1.j, l1.out, l1.fin, l1.now⟩, zav h.bw h.lo, ⟨f, h.f.bal, h.f.v, h.f.w, h.f.late, h.f.k, h.f.j⟩, h.lo⟩
theorem Gs.putFin (h : Gs w W T x g) (c : Ck) : Gs w (stA W (.pointer (some ⟨T, 8, none⟩)) (.agg (cc c))) T { x with fin := c } { g with fin := c } := by
 have l1 := h.l.put h.f (zd1 (.agg (cc c)) 8) (zb1 (.agg (cc c)) 8)
 refine ⟨by rw [zbu h.box (by rw [za1, zas]; decide), zvn], ⟨l1.t, l1.bal, l1.v, l1.w, l1.late, l1.k, l1.j, l1.out, rfl, l1.now⟩, zav h.bw h.lo, ⟨h.f.t, h.f.bal, h.f.v, h.f.w, h.f.late, h.f.k, h.f.j⟩, h.lo⟩
theorem Gs.putAll (h : Gs w W T x g) {y : En} {g' : Eg} (hs : LaidG W y g') (f : FarG T y g') : Gs w (stA W (.pointer (some ⟨T, 0, none⟩)) (.agg (en y))) T y g' := by
 refine ⟨zby h.box (by rw [zas, zas]), hs.put f (zd1 _ _) (zb1 _ _), zav h.bw h.lo, f, h.lo⟩
theorem Gs.wr (h : Gs w W T x g) (o n : Nat) (hn : o + n ≤ 42) : wrA W (.pointer (some ⟨T, o, none⟩)) n = true := yfa h.box (by rw [zas]; exact hn)
theorem Gs.fz (h : Gs w W T x g) (o : Nat) : W.frozen? ⟨T, o, none⟩ = false := frozen_of_row W T o _ _ h.box
end
section
variable {w W W' : World} {T R U : Nat} {x x0 : En} {g g0 : Eg} {s : SlV}
theorem FarG.setK {l : List Lk} (f : FarG U x g) (h : FarE U s l) : FarG U { x with k := s } { g with k := l } := ⟨f.t, f.bal, f.v, f.w, f.late, h, f.j⟩
theorem FarG.setLate {l : List Aa} (f : FarG U x g) (h : FarE U s l) : FarG U { x with late := s } { g with late := l } := ⟨f.t, f.bal, f.v, f.w, h, f.k, f.j⟩
theorem FarG.setW {l : List UInt64} (f : FarG U x g) (h : FarE U s l) : FarG U { x with w := s } { g with w := l } := ⟨f.t, f.bal, f.v, h, f.late, f.k, f.j⟩
theorem FarG.setJ {l : List Ck} (f : FarG U x g) (h : FarE U s l) : FarG U { x with j := s } { g with j := l } := ⟨f.t, f.bal, f.v, f.w, f.late, f.k, h⟩
theorem FarG.setV {v : Vt} (f : FarG U x g) (h : FarE U s v.l) : FarG U { x with v := ⟨s, v.out⟩ } { g with v := v } := ⟨f.t, f.bal, h, f.w, f.late, f.k, f.j⟩
theorem FarG.setT {l : List Nd} (f : FarG U x g) (h : FarE U s l) : FarG U { x with t := ⟨s⟩ } { g with t := l } := ⟨h, f.bal, f.v, f.w, f.late, f.k, f.j⟩
theorem FarG.setFin (f : FarG U x g) (c : Ck) : FarG U { x with fin := c } { g with fin := c } := ⟨f.t, f.bal, f.v, f.w, f.late, f.k, f.j⟩
theorem FarG.setNow (f : FarG U x g) (n : UInt64) : FarG U { x with now := n } { g with now := n } := ⟨f.t, f.bal, f.v, f.w, f.late, f.k, f.j⟩
theorem zi3 {α : Type} {E : Lie α} {l : List α} (h : SlE E w (sv s) l) (hT : w.heap.size ≤ T) : FarE T s l := by
 by_cases h0 : l = []
 ·
  exact .inl h0
 ·
  refine .inr fun e => ?_
  obtain ⟨b, o, c, e1, _, hb, _⟩ := zc8 h (List.length_pos_iff.2 h0)
  rw [e1] at e
  have := Option.some.inj e
  dsimp only at this
  omega
theorem z7c (h : LaidG w x g) (hT : w.heap.size ≤ T) : FarG T x g := ⟨zi3 h.t hT, zi3 h.bal hT, zi3 h.v hT, zi3 h.w hT, zi3 h.late hT, zi3 h.k hT, zi3 h.j hT⟩
def EnAt (W : World) (T : Nat) : Prop := ∃ z : En, W.heap[T]? = some (.cells (en z) 39 (0, 0))
theorem EnAt.keep {B : Nat} (b : Below B W W') (hT : T < B) (h : EnAt W T) : EnAt W' T := by
 obtain ⟨z, hz⟩ := h
 exact ⟨z, (b.block _ hT).trans hz⟩
theorem EnAt.lt (h : EnAt W T) : T < W.heap.size := by
 obtain ⟨z, hz⟩ := h
 exact (Array.getElem?_eq_some_iff.1 hz).1
theorem zjr (v : Value) (o : Nat) (hn : R ≠ T) (h : EnAt W R) : EnAt (W.setCell ⟨T, o, none⟩ v) R := by
 obtain ⟨z, hz⟩ := h
 exact ⟨z, (zba v o R hn).trans hz⟩
theorem z6l (v : Value) (o : Nat) (hn : R ≠ T) (h : EnAt W R) : EnAt (stA W (.pointer (some ⟨T, o, none⟩)) v) R := by
 obtain ⟨z, hz⟩ := h
 exact ⟨z, (zb1 v o R hn).trans hz⟩
theorem zz9 {α : Type} {E : Lie α} {v : Value} {l : List α} (h : SlE E W v l) : ∃ p c, v = .slice p l.length c := by
 obtain ⟨p, c, e, _⟩ := zaj h
 exact ⟨p, c, e⟩
end
end Go.Proofs.YtmihlihlpdkdcaaGreat
