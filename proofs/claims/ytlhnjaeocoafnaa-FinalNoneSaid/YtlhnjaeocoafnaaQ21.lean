/-
  The document's: the first link that counts, and is new; walked. (written by wip/gen/ref16.py)
  The document's links: May, walked. (written by wip/gen/ref15.py)
-/
import Derived.Test.YtlhnjaeocoafnaaQ19
import Derived.Test.YtlhnjaeocoafnaaQ20
namespace Go.Proofs.Ytlhnjaeocoafnaa
open Go.RowKit
set_option maxRecDepth 100000

theorem lkfind_at {ls : List Lk} {p : Lk → Bool} {j : Nat} (hj : j < ls.length) (h : ∀ x, x < j → p (lkAt ls x) = false) (hp : p (lkAt ls j) = true) : ls.find? p = some (lkAt ls j) := by
  rw [List.find?_eq_some_iff_getElem]
  refine ⟨hp, j, hj, (lkAt_in hj).symm, fun x hx => ?_⟩
  have := h x hx
  rw [lkAt_in (by omega)] at this
  rw [this]; rfl
theorem lkfind_no {ls : List Lk} {p : Lk → Bool} (h : ∀ x, x < ls.length → p (lkAt ls x) = false) : ls.find? p = none := by
  rw [List.find?_eq_none]
  intro k hk
  obtain ⟨i, hi, rfl⟩ := List.getElem_of_mem hk
  have := h i hi
  rw [lkAt_in hi] at this
  rw [this]; exact Bool.false_ne_true
/-- The first that is new, as its place. -/
def FirstAt (cnt : Lk → Bool) (ls : List Lk) (js : List Ck) (i : Int) : Prop := (i = -1 ∧ findNew cnt ls js = none) ∨ ∃ j, j < ls.length ∧ i = (j : Int) ∧ findNew cnt ls js = some (lkAt ls j)
set_option maxRecDepth 100000 in
set_option maxHeartbeats 8000000 in
theorem ref16First (s : SlV) (q : Option Addr) (m cq : Nat) (vb vj : Value) (l : List Nd) (ls : List Lk) (bal : List UInt64) (js : List Ck) (w : World) (h : SlE Ene w (sv s) l) (h1 : SlE Elk w (.slice q m cq) ls) (h2 : SlE Enum w vb bal) (h3 : SlE Ecc w vj js) (hm : ls.length = m) (hn : l.length ≤ 1000) (hmn : m ≤ 1000) (hk : bal.length ≤ 1152921504606846976) (hj : js.length ≤ 1000) :
    Calls Try.prog 38 #[.agg (tr ⟨s⟩), .slice q m cq, vb, vj] w fun e w' => (∃ i : Int, e = .returned (.int .i64 i) ∧ FirstAt (cntB l bal) ls js i) ∧ Below w.heap.size w w' := by
  have HA := Lib.hid (fun k W (g : Below w.heap.size w W) => ref16Counts s vb l k bal W (slE_keep g h) (slE_keep g h2) hn hk)
  have HH := Lib.hid (fun c W (g : Below w.heap.size w W) => ref16Has vj js c W (slE_keep g h3) hj)
  have HL := Lib.hid hm
  have HN := Lib.hid hmn
  have HFr : Hid (∀ k, freshB (cntB l bal) js k = (cntB l bal k && (decide (k.s ∈ js) && !decide (k.t ∈ js)))) := fun k => rfl
  generalize hcnt : cntB l bal = cnt at *
  obtain ⟨W0, hW0⟩ : ∃ W0, W0 = w.alloc (.cells (tr ⟨s⟩) 24) := ⟨_, rfl⟩
  have HB : Hid (Below w.heap.size w W0) := by show Below _ _ _; rw [hW0]; exact below1
  have hz : W0.heap[w.heap.size]? = some (.cells (tr ⟨s⟩) 24 (0, 0)) := by rw [hW0]; exact heap_alloc_last w _
  have HW := Lib.hid hW0
  have HZ := Lib.hid hz
  have HS := Lib.hid (slE_keep HB.out h1)
  clear hW0 h h1 h2 h3 hm hn hmn hk hj hz hcnt
  go_enter Try.func38, Try.ntmps38
  go_upto_region 1 with fail
  rw [← HW.out]
  go_wp2_with fail
  go_loopw [9] (fun i wr => ∃ j : Nat, j ≤ m ∧ i = .int .i64 (j : Int) ∧ (∀ x, x < j → freshB cnt js (lkAt ls x) = false) ∧ Below W0.heap.size W0 wr) (fun i _ => m - (intOf i).toNat)
  case atStart => exact ⟨0, Nat.zero_le _, rfl, fun x hx => absurd hx (Nat.not_lt_zero _), Below.refl _ _⟩
  case round =>
    obtain ⟨j, hj, rfl, hx, hg⟩ := hrel
    have HX := Lib.hid hx
    have HG := Lib.hid hg
    clear hx hg
    by_cases hlt : j < m
    · have i0 : (0 : Int) ≤ (j : Int) := by omega
      have i1 : (j : Int) < (m : Int) := by omega
      have u1 : (j : Int) + 1 < 10000 := by have := HN.out; omega
      have d0 : decide ((j : Int) < (m : Int)) = true := decide_eq_true i1
      have d0' : decide (j < m) = true := decide_eq_true hlt
      have HLT := Lib.hid hlt
      obtain ⟨b1, o1, rfl, _, x1⟩ := lks_ptr (slE_keep HG.out HS.out) (by have := HL.out; omega)
      have X1 := Lib.hid x1
      have HA' := Lib.hid (HA.out (lkAt ls j))
      have HS' := Lib.hid (HH.out (lkAt ls j).s)
      have HT' := Lib.hid (HH.out (lkAt ls j).t)
      have HFj := Lib.hid (HFr.out (lkAt ls j))
      have HLd : Hid (∀ W, Below wr.heap.size wr W → ldA W (.pointer (some ⟨b1, o1 + j * 67, none⟩)) 67 = some (lk (lkAt ls j)) ∧ ldA W (.pointer (some ⟨b1, o1 + j * 67, none⟩)) 33 = some (cc (lkAt ls j).s) ∧ ldA W (.pointer (some ⟨b1, o1 + j * 67 + 33, none⟩)) 33 = some (cc (lkAt ls j).t)) := fun W g => ⟨lks_ld (keepR g X1.out) (by have := HL.out; have := HLT.out; omega), lks_s (keepR g X1.out) (by have := HL.out; have := HLT.out; omega), lks_t (keepR g X1.out) (by have := HL.out; have := HLT.out; omega)⟩
      have HFind : Hid (freshB cnt js (lkAt ls j) = true → findNew cnt ls js = some (lkAt ls j)) := fun e => lkfind_at (by rw [HL.out]; exact HLT.out) HX.out e
      have HLj : Hid (∃ K, K = lkAt ls j) := ⟨_, rfl⟩
      obtain ⟨K, hK⟩ := HLj.out
      rw [← hK] at HA' HS' HT' HFj HLd HFind
      have HK := Lib.hid hK
      obtain ⟨f, hf⟩ : ∃ f, f = freshB cnt js K := ⟨_, rfl⟩
      rw [← hf] at HFj HFind
      have HFe := Lib.hid hf
      generalize cnt K = a at *
      generalize decide (K.s ∈ js) = b at *
      generalize decide (K.t ∈ js) = c at *
      have y1 := (HLd.out wr (Below.refl _ _)).1
      have z0 := (tr_cells (blk_keep HG.out HZ.out)).2.1
      clear x1 hlt HLj hK hf
      go_wp2_with fail
      have L0 := fun p : Wd wr.drew => wd_ld y1 (by decide) p
      have L1 := fun p : Wd wr.drew => wd_ld z0 (by decide) p
      clear y1 z0
      refine wp_region_lex [6] (by kernel_rfl) (by kernel_rfl) (by kernel_rfl) ?_
      repeat (first | (refine wpXL_quiet rfl rfl _ cls_begin ?_; (first | go_big_quiet_step (fail) | quiet_step (fail)); refine wpQuiet_nil ?_) | refine wpXL_skip rfl ?_)
      refine wpXL_call rfl rfl rfl enters_ref16Counts #[.agg (tr ⟨s⟩), .agg (lk K), vb] rfl ?_
      refine (HA'.out _ (belowT HB.out (belowD HG.out 1))).mono ?_
      rintro e u ⟨rfl, g⟩
      refine ⟨_, rfl, g, ?_⟩
      simp only [Act.put, List.setIfInBounds_toArray, List.set_cons_zero, List.set_cons_succ]
      have G1 : Hid (Below wr.heap.size wr u) := belowT (belowD (Below.refl _ _) 1) g
      clear g
      repeat (first | (refine wpXL_quiet rfl rfl _ cls_begin ?_; (first | go_big_quiet_step (fail) | quiet_step (fail)); refine wpQuiet_nil ?_) | refine wpXL_skip rfl ?_)
      refine wpXL_nil ?_
      clear L0 L1
      have y1 := (HLd.out u G1.out).2.1
      go_wp2_with fail
      refine (HS'.out _ (belowT HB.out (belowT HG.out G1.out))).mono ?_
      rintro e u2 ⟨rfl, g⟩
      have G2 : Hid (Below wr.heap.size wr u2) := belowT G1.out g
      clear g y1
      have y1 := (HLd.out u2 G2.out).2.2
      go_wp2_with fail
      refine (HT'.out _ (belowT HB.out (belowT HG.out G2.out))).mono ?_
      rintro e u3 ⟨rfl, g⟩
      have G3 : Hid (Below wr.heap.size wr u3) := belowT G2.out g
      clear g y1
      cases a <;> cases b <;> cases c <;> (
        first
        | (have hF : Hid (f = false) := HFj.out
           go_wp2_with fail
           go_roundw
           case rel => exact ⟨j + 1, HLT.out, by go_num, (fun x hx => by
             rcases Nat.lt_succ_iff_lt_or_eq.1 hx with h | rfl
             · exact HX.out x h
             · rw [← HK.out, ← HFe.out, hF.out]), belowT HG.out G3.out⟩
           case measure => simp [intOf]; have := HLT.out; omega)
        | (have hF : Hid (f = true) := HFj.out
           go_wp2_with fail
           go_ret
           exact ⟨⟨_, rfl, .inr ⟨j, by rw [HL.out]; exact HLT.out, rfl, by rw [← HK.out]; exact HFind.out hF.out⟩⟩, belowT HB.out (belowT HG.out G3.out)⟩))
    · obtain rfl : j = m := by omega
      have d0 : decide ((j : Int) < (j : Int)) = false := decide_eq_false (Int.lt_irrefl _)
      have d0' : decide (j < j) = false := decide_eq_false (Nat.lt_irrefl _)
      have hF : Hid (findNew cnt ls js = none) := lkfind_no fun x hx => HX.out x (by rw [← HL.out]; exact hx)
      clear hlt
      go_wp2_with fail
      go_ret
      exact ⟨⟨_, rfl, .inl ⟨rfl, hF.out⟩⟩, belowT HB.out HG.out⟩
theorem enters_ref16First : ∀ args w, (callFunc 38 args).run Try.prog w = .ok (.enter 38 args) w := entersE Try.func38 (by kernel_rfl) (by kernel_rfl)
end Go.Proofs.Ytlhnjaeocoafnaa
namespace Go.Proofs.Ytlhnjaeocoafnaa
open Go.RowKit
set_option maxRecDepth 100000

set_option maxRecDepth 100000 in
set_option maxHeartbeats 8000000 in
theorem ref15May_n (p : Option Addr) (n cp : Nat) (l : List Lk) (w : World) (h : SlE Elk w (.slice p n cp) l) (hl : l.length = n) (hn : n ≤ 1000) :
    Calls Try.prog 65 #[.slice p n cp] w fun e w' => e = .returned (.bool (mayL l)) ∧ Below w.heap.size w w' := by
  have HS := Lib.hid h
  have HL := Lib.hid hl
  have HN := Lib.hid hn
  obtain ⟨r, hr⟩ : ∃ r, r = mayL l := ⟨_, rfl⟩
  rw [← hr]
  have HR := Lib.hid hr
  have HO := Lib.hid (fun (a b : Lk) W => ref15One a b W)
  clear h hl hn hr
  go_enter Try.func65, Try.ntmps65
  go_wp2_with fail
  go_loopw [3] (fun i wr => ∃ j : Nat, j ≤ n ∧ i = .int .i64 (j : Int) ∧ MayK l j ∧ Below w.heap.size w wr) (fun i _ => n - (intOf i).toNat)
  case atStart => exact ⟨0, Nat.zero_le _, rfl, fun i hi => absurd hi (Nat.not_lt_zero _), Below.refl _ _⟩
  case round =>
    obtain ⟨j, hj, rfl, hm, hb⟩ := hrel
    obtain ⟨wo, rfl⟩ : ∃ wo : World, wo = wr := ⟨_, rfl⟩
    have HM := Lib.hid hm
    have HB := Lib.hid hb
    clear hm hb
    by_cases hlt : j < n
    · have i0 : (0 : Int) ≤ (j : Int) := by omega
      have i1 : (j : Int) < (n : Int) := by omega
      have u1 : (j : Int) + 1 < 10000 := by have := HN.out; omega
      have d0 : decide ((j : Int) < (n : Int)) = true := decide_eq_true i1
      have d0' : decide (j < n) = true := decide_eq_true hlt
      have HLT := Lib.hid hlt
      obtain ⟨b1, o1, rfl, _, x1⟩ := lks_ptr (slE_keep HB.out HS.out) (by have := HL.out; omega)
      have y1 := lks_se x1 (i := j) (by have := HL.out; omega)
      have y2 := lks_te x1 (i := j) (by have := HL.out; omega)
      have y3 := lks_mask x1 (i := j) (by have := HL.out; omega)
      have HOK : Hid (r = true → okK (lkAt l j)) := fun e => ((mayL_iff.1 (HR.out.symm.trans e)).1 j (by rw [HL.out]; exact HLT.out)).1
      have HOK2 : Hid ((lkAt l j).s.epoch.toNat < (lkAt l j).t.epoch.toNat → 1 ≤ (lkAt l j).mask.toNat → (lkAt l j).mask.toNat ≤ 255 → okK (lkAt l j)) := fun a b c => ⟨a, b, c⟩
      have HOK3 : Hid (okK (lkAt l j) → (lkAt l j).s.epoch.toNat < (lkAt l j).t.epoch.toNat ∧ 1 ≤ (lkAt l j).mask.toNat ∧ (lkAt l j).mask.toNat ≤ 255) := fun h => h
      generalize (lkAt l j).s.epoch.toNat = S at *
      generalize (lkAt l j).t.epoch.toNat = T at *
      generalize (lkAt l j).mask.toNat = M at *
      clear hlt x1
      by_cases h1 : T ≤ S
      · have t1 : decide ((T : Int) ≤ (S : Int)) = true := decide_eq_true (by omega)
        have t1' : decide (T ≤ S) = true := decide_eq_true h1
        have hF : Hid (r = false) := by show r = false; rw [← Bool.not_eq_true]; intro e; have := HOK3.out (HOK.out e); omega
        clear h1
        go_wp2_with fail
        go_quiet (fail)
        go_wp2_with fail
        go_ret
        exact ⟨by rw [hF.out]; first | done | rfl, belowD HB.out _⟩
      · have t1 : decide ((T : Int) ≤ (S : Int)) = false := decide_eq_false (by omega)
        have t1' : decide (T ≤ S) = false := decide_eq_false h1
        by_cases h2 : M < 1
        · have t2 : decide ((M : Int) < 1) = true := decide_eq_true (by omega)
          have t2' : decide (M < 1) = true := decide_eq_true h2
          have t2'' : decide (M = 0) = true := decide_eq_true (by omega)
          have hF : Hid (r = false) := by show r = false; rw [← Bool.not_eq_true]; intro e; have := HOK3.out (HOK.out e); omega
          clear h1 h2
          go_wp2_with fail
          go_quiet (fail)
          go_wp2_with fail
          go_ret
          exact ⟨by rw [hF.out]; first | done | rfl, belowD HB.out _⟩
        · have t2 : decide ((M : Int) < 1) = false := decide_eq_false (by omega)
          have t2' : decide (M < 1) = false := decide_eq_false h2
          have t2'' : decide (M = 0) = false := decide_eq_false (by omega)
          by_cases h3 : 255 < M
          · have t3 : decide ((255 : Int) < (M : Int)) = true := decide_eq_true (by omega)
            have t3' : decide (255 < M) = true := decide_eq_true h3
            have hF : Hid (r = false) := by show r = false; rw [← Bool.not_eq_true]; intro e; have := HOK3.out (HOK.out e); omega
            clear h1 h2 h3
            go_wp2_with fail
            go_quiet (fail)
            go_wp2_with fail
            go_ret
            exact ⟨by rw [hF.out]; first | done | rfl, belowD HB.out _⟩
          · have t3 : decide ((255 : Int) < (M : Int)) = false := decide_eq_false (by omega)
            have t3' : decide (255 < M) = false := decide_eq_false h3
            have HK := Lib.hid (HOK2.out (by omega) (by omega) (by omega))
            clear h1 h2 h3
            go_wp2_with fail
            go_quiet (fail)
            go_wp2_with fail
            clear y1 y2 y3 t1 t1' t2 t2' t2'' t3 t3' d0 d0'
            go_loopw [4] (fun k wr => ∃ q : Nat, q ≤ j ∧ k = .int .i64 (q : Int) ∧ (∀ x, x < q → oneB (lkAt l j) (lkAt l x) = false) ∧ Below wo.heap.size wo wr) (fun k _ => j - (intOf k).toNat)
            case atStart => exact ⟨0, Nat.zero_le _, rfl, fun x hx => absurd hx (Nat.not_lt_zero _), belowD (Below.refl _ _) _⟩
            case round =>
              obtain ⟨q, hq, rfl, hx, hb⟩ := hrel
              have HX := Lib.hid hx
              have HI := Lib.hid hb
              clear hx hb
              by_cases hqj : q < j
              · have d1 : decide ((q : Int) < (j : Int)) = true := decide_eq_true (by omega)
                have d1' : decide (q < j) = true := decide_eq_true hqj
                have q0 : (0 : Int) ≤ (q : Int) := by omega
                have q1 : (q : Int) < (n : Int) := by omega
                have q2 : (q : Int) + 1 < 10000 := by omega
                have HQ := Lib.hid hqj
                obtain ⟨b2, o2, e2, _, x2⟩ := lks_ptr (slE_keep (belowT HB.out HI.out) HS.out) (by have := HL.out; omega)
                cases e2
                have y1 := lks_ld x2 (i := j) (by have := HL.out; omega)
                have y2 := lks_ld x2 (i := q) (by have := HL.out; omega)
                have HC := Lib.hid (fun W => HO.out (lkAt l j) (lkAt l q) W)
                obtain ⟨E, hE⟩ : ∃ E, E = oneB (lkAt l j) (lkAt l q) := ⟨_, rfl⟩
                rw [← hE] at HC
                have HE := Lib.hid hE
                have HRq : Hid (r = true → oneB (lkAt l j) (lkAt l q) = false) := fun e => ((mayL_iff.1 (HR.out.symm.trans e)).1 j (by rw [HL.out]; exact HLT.out)).2 q HQ.out
                generalize lkAt l j = Lj at *
                generalize hLq : lkAt l q = Lq at *
                have HLq := Lib.hid hLq
                clear hqj x2 hE hLq
                go_wp2_with fail
                have L0 := fun p : Wd wr.drew => wd_ld y1 (by decide) p
                have L1 := fun p : Wd wr.drew => wd_ld y2 (by decide) p
                clear y1 y2
                refine wp_region_lex [8] (by kernel_rfl) (by kernel_rfl) (by kernel_rfl) ?_
                repeat (first | (refine wpXL_quiet rfl rfl _ cls_begin ?_; (first | go_big_quiet_step (fail) | quiet_step (fail)); refine wpQuiet_nil ?_) | refine wpXL_skip rfl ?_)
                refine wpXL_call rfl rfl rfl enters_ref15One #[.agg (lk Lj), .agg (lk Lq)] rfl ?_
                refine (HC.out _).mono ?_
                rintro e u ⟨rfl, g⟩
                refine ⟨_, rfl, g, ?_⟩
                simp only [Act.put, List.setIfInBounds_toArray, List.set_cons_zero, List.set_cons_succ]
                have G : Hid (Below wo.heap.size wo u) := belowT HI.out (belowT (belowD (Below.refl _ _) 1) g)
                clear g
                repeat (first | (refine wpXL_quiet rfl rfl _ cls_begin ?_; (first | go_big_quiet_step (fail) | quiet_step (fail)); refine wpQuiet_nil ?_) | refine wpXL_skip rfl ?_)
                refine wpXL_nil ?_
                clear L0 L1
                cases E
                · go_wp2_with fail
                  go_roundw
                  case rel => exact ⟨q + 1, HQ.out, by go_num, (fun x hx => by
                    rcases Nat.lt_succ_iff_lt_or_eq.1 hx with h | rfl
                    · exact HX.out x h
                    · rw [HLq.out]; exact HE.out.symm), G.out⟩
                  case measure => simp [intOf]; have := HQ.out; omega
                · have hF : Hid (r = false) := by show r = false; rw [← Bool.not_eq_true]; intro e; have := HRq.out e; rw [← HE.out] at this; cases this
                  go_wp2_with fail
                  go_ret
                  exact ⟨by rw [hF.out]; first | done | rfl, belowT HB.out G.out⟩
              · obtain rfl : q = j := by omega
                have d1 : decide ((q : Int) < (q : Int)) = false := decide_eq_false (Int.lt_irrefl _)
                have d1' : decide (q < q) = false := decide_eq_false (Nat.lt_irrefl _)
                clear hqj
                go_wp2_with fail
                go_roundw
                case rel => exact ⟨q + 1, HLT.out, by go_num, (fun i hi => by
                  rcases Nat.lt_succ_iff_lt_or_eq.1 hi with h | rfl
                  · exact HM.out i h
                  · exact ⟨HK.out, HX.out⟩), belowT HB.out HI.out⟩
                case measure => simp [intOf]; have := HLT.out; omega
    · obtain rfl : j = n := by omega
      have d0 : decide ((j : Int) < (j : Int)) = false := decide_eq_false (Int.lt_irrefl _)
      have d0' : decide (j < j) = false := decide_eq_false (Nat.lt_irrefl _)
      have hF : Hid (r = decide (j ≤ 16)) := by
        show r = _
        rw [HR.out, Bool.eq_iff_iff, mayL_iff, decide_eq_true_iff, HL.out]
        exact ⟨fun h => h.2, fun h => ⟨HM.out, h⟩⟩
      have t1 : decide ((j : Int) ≤ 16) = r := by rw [hF.out]; exact decide_eq_decide.2 (by omega)
      have t1' : decide (j ≤ 16) = r := hF.out.symm
      clear hlt
      go_wp2_with fail
      go_ret
      exact ⟨rfl, HB.out⟩
theorem ref15May (v : Value) (l : List Lk) (w : World) (h : SlE Elk w v l) (hn : l.length ≤ 1000) :
    Calls Try.prog 65 #[v] w fun e w' => e = .returned (.bool (mayL l)) ∧ Below w.heap.size w w' := by
  have k := h
  obtain ⟨p, cp, rfl, _⟩ := slE_shape h
  exact ref15May_n p _ cp l w k rfl hn
theorem enters_ref15May : ∀ args w, (callFunc 65 args).run Try.prog w = .ok (.enter 65 args) w := entersE Try.func65 (by kernel_rfl) (by kernel_rfl)
end Go.Proofs.Ytlhnjaeocoafnaa
