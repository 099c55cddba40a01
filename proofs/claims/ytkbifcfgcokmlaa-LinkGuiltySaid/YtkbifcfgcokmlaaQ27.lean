/-
  Lists of links held against one another: slices.Equal, walked.
  Package link: May, Same, Who, walked.
-/
import Derived.Test.YtkbifcfgcokmlaaQ13
import Derived.Laws.Cover3
import Derived.Test.YtkbifcfgcokmlaaQ26
namespace Go.Proofs.Ytkbifcfgcokmlaa
open Go.RowKit
set_option maxRecDepth 100000

set_option maxRecDepth 100000 in
set_option maxHeartbeats 1000000 in
theorem equalLk_ne (p q : Option Addr) (n m cl ck : Nat) (w : World) (hl : n ≠ m) :
    Calls Try.prog 32 #[.slice p n cl, .slice q m ck] w fun e w' => e = .returned (.bool false) ∧ Below w.heap.size w w' := by
  have e1 : ((n : Int) == (m : Int)) = false := by simp; omega
  clear hl
  go_enter Try.func32, Try.ntmps32
  go_wp2_with fail
  go_ret
  exact ⟨rfl, Below.refl _ _⟩

set_option maxRecDepth 100000 in
set_option maxHeartbeats 1000000 in
theorem equalLk_eq (p q : Option Addr) (n cl ck : Nat) (l k : List Lk) (w : World) (h : SlE Elk w (.slice p n cl) l) (h' : SlE Elk w (.slice q n ck) k) (hl : l.length = n) (hk : k.length = n) (hn : n ≤ 1000) :
    Calls Try.prog 32 #[.slice p n cl, .slice q n ck] w fun e w' => e = .returned (.bool (decide (l = k))) ∧ Below w.heap.size w w' := by
  have HS := Lib.hid h
  have HT := Lib.hid h'
  have HL := Lib.hid hl
  have HK := Lib.hid hk
  have HN := Lib.hid hn
  obtain ⟨r, hr⟩ : ∃ r, r = decide (l = k) := ⟨_, rfl⟩
  rw [← hr]
  have HR := Lib.hid hr
  clear h h' hl hk hn hr
  go_enter Try.func32, Try.ntmps32
  go_wp2_with fail
  go_loopw [5, 13] (fun _ i wr => ∃ j : Nat, j ≤ n ∧ i = .int .i64 j ∧ (∀ x, x < j → lkAt l x = lkAt k x) ∧ Below w.heap.size w wr) (fun _ i _ => n - (intOf i).toNat)
  case atStart => exact ⟨0, Nat.zero_le _, rfl, fun x hx => absurd hx (Nat.not_lt_zero _), Below.refl _ _⟩
  case round =>
    obtain ⟨j, hj, rfl, hx, hb⟩ := hrel
    have HX := Lib.hid hx
    have HB := Lib.hid hb
    clear hx hb
    by_cases hlt : j < n
    · have i0 : (0 : Int) ≤ (j : Int) := by omega
      have i1 : (j : Int) < (n : Int) := by omega
      have u1 : (j : Int) + 1 < 10000 := by have := HN.out; omega
      obtain ⟨b1, o1, c1, e1, _, q1, x1⟩ := slE_ne HS.out (by have := HL.out; omega)
      injection e1 with e2 _ e3
      subst e2 e3
      obtain ⟨b2, o2, c2, e1, _, q2, x2⟩ := slE_ne HT.out (by have := HK.out; omega)
      injection e1 with e2 _ e3
      subst e2 e3
      have y1 : ldA wr (.pointer (some ⟨b1, o1 + j * 67, none⟩)) 67 = some (lk (lkAt l j)) := keep HB.out (lks_ld x1 (by have := HL.out; omega))
      have y2 : ldA wr (.pointer (some ⟨b2, o2 + j * 67, none⟩)) 67 = some (lk (lkAt k j)) := keep HB.out (lks_ld x2 (by have := HK.out; omega))
      clear x1 x2 q1 q2
      by_cases he : lkAt l j = lkAt k j
      · have HE := Lib.hid he
        rw [he] at y1
        clear he
        go_wp2_with fail
        go_quiet (fail)
        go_wp2_with fail
        go_roundw
        case rel => exact ⟨j + 1, by omega, by go_num, fun x hx => by
          rcases Nat.lt_succ_iff_lt_or_eq.1 hx with h | rfl
          · exact HX.out x h
          · exact HE.out, belowD HB.out _⟩
        case measure => simp [intOf]; omega
      · have hR : Hid (r = false) := by
          show r = false
          rw [HR.out, decide_eq_false_iff_not]
          intro e; exact he (by rw [e])
        have t1 : decide (lkAt l j = lkAt k j) = false := decide_eq_false he
        clear he
        go_wp2_with fail
        go_quiet (fail)
        go_wp2_with fail
        go_ret
        exact ⟨by rw [hR.out]; first | done | rfl, belowD HB.out _⟩
    · obtain rfl : j = n := by omega
      have hR : Hid (r = true) := by
        show r = true
        rw [HR.out, decide_eq_true_iff]
        exact lk_ext (by rw [HL.out, HK.out]) fun i hi => HX.out i (by have := HK.out; omega)
      go_wp2_with fail
      go_ret
      exact ⟨by rw [hR.out]; first | done | rfl, HB.out⟩
/-- Are two lists the same? -/
theorem equalLk (v u : Value) (l k : List Lk) (w : World) (h : SlE Elk w v l) (h' : SlE Elk w u k) (hn : l.length ≤ 1000) :
    Calls Try.prog 32 #[v, u] w fun e w' => e = .returned (.bool (decide (l = k))) ∧ Below w.heap.size w w' := by
  have hs := h
  have ht := h'
  obtain ⟨p, cl, rfl, _⟩ := slE_shape h
  obtain ⟨q, ck, rfl, _⟩ := slE_shape h'
  by_cases e : l.length = k.length
  · rw [← e] at ht ⊢
    exact equalLk_eq p q l.length cl ck l k w hs ht rfl e.symm hn
  · rw [decide_eq_false (fun he => e (by rw [he]))]
    exact equalLk_ne p q _ _ cl ck w e
theorem enters_equalLk : ∀ args w, (callFunc 32 args).run Try.prog w = .ok (.enter 32 args) w := entersE Try.func32 (by kernel_rfl) (by kernel_rfl)
end Go.Proofs.Ytkbifcfgcokmlaa
namespace Go.Proofs.Ytkbifcfgcokmlaa
open Go.RowKit Go.Maps
set_option maxRecDepth 100000

set_option maxRecDepth 100000 in
set_option maxHeartbeats 4000000 in
theorem linkMay_far (p : Option Addr) (n cp : Nat) (w : World) (hn : 16 < n) :
    Calls Try.prog 16 #[.slice p n cp] w fun e w' => e = .returned (.bool false) ∧ Below w.heap.size w w' := by
  have t1 : decide ((16 : Int) < (n : Int)) = true := by rw [decide_eq_true_iff]; omega
  have t1' : decide (16 < n) = true := decide_eq_true hn
  clear hn
  go_enter Try.func16, Try.ntmps16
  go_wp2_with fail
  go_ret
  exact ⟨rfl, Below.refl _ _⟩
set_option maxRecDepth 100000 in
set_option maxHeartbeats 8000000 in
theorem linkMay_near (p : Option Addr) (n cp : Nat) (l : List Lk) (w : World) (h : SlE Elk w (.slice p n cp) l) (hl : l.length = n) (hn : n ≤ 16) :
    Calls Try.prog 16 #[.slice p n cp] w fun e w' => e = .returned (.bool (mayL l)) ∧ Below w.heap.size w w' := by
  have HN := Lib.hid hn
  have HL := Lib.hid hl
  have HS := Lib.hid h
  obtain ⟨r, hr⟩ : ∃ r, r = mayL l := ⟨_, rfl⟩
  rw [← hr]
  have HR : Hid (r = true ↔ (∀ i, i < n → okK (lkAt l i)) ∧ Maps.size (pcD l n) = n) := by
    show _ ↔ _
    rw [hr, mayL_iff, mayK_iff, hl]
    exact ⟨fun h => h.1, fun h => ⟨h, hn⟩⟩
  have t1 : decide ((16 : Int) < (n : Int)) = false := by rw [decide_eq_false_iff_not]; omega
  have t1' : decide (16 < n) = false := by rw [decide_eq_false_iff_not]; omega
  clear h hl hn hr
  go_enter Try.func16, Try.ntmps16
  go_wp2_with fail
  clear t1 t1'
  go_loopw [10] (fun i wr => ∃ j : Nat, j ≤ n ∧ i = .int .i64 (j : Int) ∧ (∀ k, k < j → okK (lkAt l k)) ∧ Below w.heap.size w wr) (fun i _ => n - (intOf i).toNat)
  case atStart => exact ⟨0, Nat.zero_le _, rfl, fun k hk => absurd hk (Nat.not_lt_zero _), Below.refl _ _⟩
  case round =>
    obtain ⟨j, hj, rfl, hx, hb⟩ := hrel
    have HX := Lib.hid hx
    have HBB := Lib.hid hb
    clear hx hb
    by_cases hlt : j < n
    · have i0 : (0 : Int) ≤ (j : Int) := by omega
      have i1 : (j : Int) < (n : Int) := by omega
      have u1 : (j : Int) + 1 < 10000 := by have := HN.out; omega
      obtain ⟨b1, o1, rfl, q1, x1⟩ := lks_ptr HS.out (by have := HL.out; omega)
      have y1 := keep HBB.out (lks_ld x1 (i := j) (by have := HL.out; omega))
      clear x1 q1
      obtain ⟨x, hx⟩ : ∃ x, x = lkAt l j := ⟨_, rfl⟩
      rw [← hx] at y1
      have HE := Lib.hid hx
      have HC := Lib.hid (fun W => linkOneMay x W)
      obtain ⟨c, hc⟩ : ∃ c, c = decide (okK x) := ⟨_, rfl⟩
      rw [← hc] at HC
      have HCc := Lib.hid hc
      clear hx hc
      go_upto_region 6 with fail
      obtain ⟨V, hV⟩ : ∃ V, V = wr.alloc (.cells (lk x) 36) := ⟨_, rfl⟩
      rw [← hV]
      have GV : Hid (Below wr.heap.size wr V) := by show Below _ _ _; rw [hV]; exact below1
      have MV : Hid (V.heap[wr.heap.size]? = some (.cells (lk x) 36 (0, 0))) := by show _ = _; rw [hV]; exact heap_alloc_last _ _
      clear hV y1
      have a1 := (lk_v MV.out).a
      go_wp2_with fail
      refine (HC.out V).mono ?_
      rintro e V1 ⟨rfl, g⟩
      replace GV := Lib.hid (belowT GV.out g)
      clear g a1 MV
      cases c
      · have hR : Hid (r = false) := by
          show r = false
          rw [← Bool.not_eq_true, HR.out]
          intro h
          have := h.1 j hlt
          rw [← HE.out] at this
          rw [decide_eq_true this] at HCc
          cases HCc.out
        go_wp2_with fail
        go_ret
        exact ⟨by rw [hR.out]; first | done | rfl, belowT HBB.out GV.out⟩
      · go_wp2_with fail
        go_roundw
        case rel => exact ⟨j + 1, by omega, by go_num, fun k hk => by
          rcases Nat.lt_succ_iff_lt_or_eq.1 hk with h | rfl
          · exact HX.out k h
          · rw [← HE.out]; exact of_decide_eq_true HCc.out.symm, belowT HBB.out GV.out⟩
        case measure => simp [intOf]; omega
    · obtain rfl : j = n := by omega
      obtain ⟨m, hm⟩ : ∃ m, m = Maps.size (pcD l j) := ⟨_, rfl⟩
      have hR : r = decide (m = j) := by
        rw [Bool.eq_iff_iff, decide_eq_true_iff, HR.out, hm]
        exact ⟨fun h => h.2, fun h => ⟨HX.out, h⟩⟩
      have s1 : ((m : Int) == (j : Int)) = r := by rw [hR, Bool.eq_iff_iff, beq_iff_eq, decide_eq_true_iff]; omega
      have s2 : decide (m = j) = r := hR.symm
      have HM := Lib.hid hm
      clear hlt hR hm
      go_wp2_with fail
      refine (progLinkPlaces_n p j cp l wr (slE_keep HBB.out HS.out) HL.out (by have := HN.out; omega)).mono ?_
      rintro e u ⟨b, rfl, ho, g⟩
      have Le := fun (ty : TypeId) => ho.len Try.underlying49 ty
      rw [← HM.out] at Le
      have G := Lib.hid (belowT HBB.out g)
      clear g ho
      go_wp2_with fail
      go_ret
      exact ⟨rfl, G.out⟩
/-- May, at whatever list of links. -/
theorem linkMay (v : Value) (l : List Lk) (w : World) (h : SlE Elk w v l) :
    Calls Try.prog 16 #[v] w fun e w' => e = .returned (.bool (mayL l)) ∧ Below w.heap.size w w' := by
  have k := h
  obtain ⟨p, cl, rfl, _⟩ := slE_shape h
  by_cases hf : 16 < l.length
  · have e : mayL l = false := by
      rw [← Bool.not_eq_true, mayL_iff]
      intro hm
      omega
    rw [e]
    exact linkMay_far p _ cl w hf
  · exact linkMay_near p _ cl l w k rfl (by omega)
theorem enters_linkMay : ∀ args w, (callFunc 16 args).run Try.prog w = .ok (.enter 16 args) w := entersE Try.func16 (by kernel_rfl) (by kernel_rfl)

set_option maxRecDepth 100000 in
set_option maxHeartbeats 1000000 in
theorem linkSame (u v : Value) (a b : List Lk) (w : World) (h : SlE Elk w u a) (k : SlE Elk w v b) (hn : a.length ≤ 1000) :
    Calls Try.prog 17 #[u, v] w fun e w' => e = .returned (.bool (decide (a = b))) ∧ Below w.heap.size w w' := by
  have HC := Lib.hid (equalLk u v a b w h k hn)
  generalize decide (a = b) = r at *
  clear h k
  go_enter Try.func17, Try.ntmps17
  go_wp2_with fail
  refine HC.out.mono ?_
  rintro e w1 ⟨rfl, g⟩
  have G := Lib.hid g
  clear g
  go_wp2_with fail
  go_ret
  exact ⟨rfl, G.out⟩

set_option maxRecDepth 100000 in
set_option maxHeartbeats 8000000 in
theorem progLinkWho_n (p : Option Addr) (n cp : Nat) (l : List Lk) (s t : Ck) (w : World) (h : SlE Elk w (.slice p n cp) l) (hl : l.length = n) (hn : n ≤ 1000) :
    Calls Try.prog 18 #[.slice p n cp, .agg (cc s), .agg (cc t)] w fun e w' => e = .returned (.int .u64 ((whoK l s t).toNat : Int)) ∧ Below w.heap.size w w' := by
  obtain ⟨W0, hW0⟩ : ∃ W0, W0 = (w.alloc (.cells (cc s) 27)).alloc (.cells (cc t) 27) := ⟨_, rfl⟩
  obtain ⟨hB, m0, m1, _⟩ := heap2 w _ _ _ _ W0 hW0
  have HB := Lib.hid hB
  have HW := Lib.hid hW0
  have HS := Lib.hid (slE_keep hB h)
  have HL := Lib.hid hl
  have HN := Lib.hid hn
  have La := fun p : Wd W0.drew => wd_ld (ck_v m0).a (by decide) p
  have Lb := fun p : Wd W0.drew => wd_ld (ck_v m1).a (by decide) p
  have HLK := Lib.hid (pcD_look l s t)
  rw [hl] at HLK
  obtain ⟨a, ha⟩ : ∃ a, a = atK l s t := ⟨_, rfl⟩
  have HA := Lib.hid ha
  obtain ⟨q, hq⟩ : ∃ q, q = decide (atK l s t < n) := ⟨_, rfl⟩
  rw [← hq] at HLK
  have HQ := Lib.hid hq
  obtain ⟨r, hr⟩ : ∃ r, r = (whoK l s t) := ⟨_, rfl⟩
  rw [← hr]
  have HR := Lib.hid hr
  obtain ⟨c, hc⟩ : ∃ c, c = whereK l s t := ⟨_, rfl⟩
  rw [← hc] at HLK
  have HC := Lib.hid hc
  clear h hl hn hW0 hB m0 m1 ha hq hr hc
  go_enter Try.func18, Try.ntmps18
  go_upto_region 1 with fail
  rw [← HW.out]
  refine wp_region_lex [1] (by kernel_rfl) (by kernel_rfl) (by kernel_rfl) ?_
  repeat (refine wpXL_quiet rfl rfl _ cls_begin ?_; (first | go_big_quiet_step (fail) | quiet_step (fail)); refine wpQuiet_nil ?_)
  refine wpXL_call rfl rfl rfl enters_linkPlaces #[.slice p n cp] rfl ?_
  refine (progLinkPlaces_n p n cp l _ (slE_keep (belowD (Below.refl _ _) 1) HS.out) HL.out HN.out).mono ?_
  rintro e u ⟨b, rfl, ho, g⟩
  refine ⟨_, rfl, g, ?_⟩
  simp only [Act.put, List.setIfInBounds_toArray, List.set_cons_zero, List.set_cons_succ]
  have Lc := fun q : Wd u => look_at (ownsMap_keep q.h ho) HLK.out.2
  rw [HLK.out.1] at Lc
  have G := Lib.hid (belowT (belowD (Below.refl W0.heap.size W0) 1) g)
  clear g ho
  refine wpXL_quiet rfl rfl _ cls_begin ?_
  (first | go_big_quiet_step (fail) | quiet_step (fail))
  refine wpQuiet_nil ?_
  refine wpXL_quiet rfl rfl _ cls_begin ?_
  (first | go_big_quiet_step (fail) | quiet_step (fail))
  refine wpQuiet_nil ?_
  refine wpXL_quiet rfl rfl _ cls_begin ?_
  (first | go_big_quiet_step (fail) | quiet_step (fail))
  refine wpQuiet_nil ?_
  refine wpXL_quiet rfl rfl u (cls_at 1 u (by simp) (by kernel_rfl)) ?_
  (first | go_big_quiet_step (fail) | quiet_step (fail))
  refine wpQuiet_nil ?_
  repeat (refine wpXL_quiet rfl rfl _ cls_begin ?_; (first | go_big_quiet_step (fail) | quiet_step (fail)); refine wpQuiet_nil ?_)
  refine wpXL_nil ?_
  clear La Lb Lc
  cases q
  · have hR : Hid (r = 0) := by
      show r = 0
      rw [HR.out]; unfold whoK
      rw [HL.out, if_neg (of_decide_eq_false HQ.out.symm)]
    go_wp2_with fail
    go_ret
    exact ⟨by rw [hR.out]; first | done | rfl, belowT HB.out G.out⟩
  · have hlt : a < n := by rw [HA.out]; exact of_decide_eq_true HQ.out.symm
    obtain rfl : c = (a : Int) := by rw [HC.out]; unfold whereK; rw [HL.out, ← HA.out, if_pos hlt]
    have hR : Hid (r = (lkAt l a).mask) := by
      show r = _
      rw [HR.out]; unfold whoK
      rw [HL.out, ← HA.out, if_pos hlt]
    obtain ⟨b1, o1, rfl, q1, x1⟩ := lks_ptr (slE_keep G.out HS.out) (by have := HL.out; omega)
    have y1 := lks_mask x1 (i := a) (by have := HL.out; omega)
    have i0 : (0 : Int) ≤ (a : Int) := by omega
    have i1 : (a : Int) < (n : Int) := by omega
    clear x1 q1 hlt
    go_wp2_with fail
    go_ret
    exact ⟨by rw [hR.out]; rfl, belowT HB.out G.out⟩
theorem linkWho (u : Value) (l : List Lk) (s t : Ck) (w : World) (h : SlE Elk w u l) (hn : l.length ≤ 1000) :
    Calls Try.prog 18 #[u, .agg (cc s), .agg (cc t)] w fun e w' => e = .returned (.int .u64 ((whoK l s t).toNat : Int)) ∧ Below w.heap.size w w' := by
  have k := h
  obtain ⟨p, cl, rfl, _⟩ := slE_shape h
  exact progLinkWho_n p _ cl l s t w k rfl hn
end Go.Proofs.Ytkbifcfgcokmlaa
