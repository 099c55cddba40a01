/-
  Package stake: Who, walked.
  Who is guilty, by one walk over rising links, with who attested what last in a map: what each validator's bit and entry say, plainly.
-/
import Derived.Test.YtlhnjaeocoafnaaQ37
import Derived.Test.YtlhnjaeocoafnaaQ47
import Derived.Test.YtlhnjaeocoafnaaQ38
import Derived.Test.YtlhnjaeocoafnaaQ45
import Derived.Test.YtlhnjaeocoafnaaQ35
namespace Go.Proofs.Ytlhnjaeocoafnaa
open Go.RowKit Go.Shelf
set_option maxRecDepth 100000

attribute [local go_sem] Oper.semAt_some

def toZ11 (ks : List Nat) : List Int := ks.map fun k : Nat => (k : Int)
theorem toZ11_snoc (ks : List Nat) (k : Nat) : toZ11 (ks ++ [k]) = toZ11 ks ++ [(k : Int)] := by unfold toZ11; rw [List.map_append]; rfl
theorem toZ11_len (ks : List Nat) : (toZ11 ks).length = ks.length := List.length_map ..
/-- A variable holds a list of the call's own. -/
def Out11 (D n₀ : Nat) (L : List Int) (W : World) : Prop := ∃ v, W.heap[D]? = some (.cells #[v] 88 (0, 0)) ∧ OwnE Eint W n₀ v L
theorem out11_own {α : Type} {B D n₀ : Nat} (f : List α → List Int) (hD : D < B) : OwnFrom B (fun s W => Out11 D n₀ (f s) W) := fun s W W' row ⟨v, h1, h2⟩ hg hr =>
  ⟨v, blk_own (fun _ : List α => Obj.cells #[v] 88 (0, 0)) hD s W W' row h1 hg hr, own_own (fun _ => v) f s W W' row h2 hg hr⟩
theorem But.grown11 {s0 n₀ D : Nat} {A W W' : World} {row : Option Nat} (h : But s0 n₀ D A W) (hg : W.grownBy W' row) (hr : ∀ r, row = some r → n₀ ≤ r) (hs : s0 ≤ n₀) (hn : n₀ ≤ W.heap.size) : But s0 n₀ D A W' :=
  h.trans (But.of_below ((Below.refl _ _).grown hg hn hr) hs)

set_option maxRecDepth 100000 in
set_option maxHeartbeats 4000000 in
theorem stakeWho : StWhoC := fun mask w => by
  obtain ⟨z, hz⟩ : ∃ z, z = whoI mask := ⟨_, rfl⟩
  have HZ : Hid (z = toZ11 (whoT mask)) := hz
  have HN : Hid ((whoT mask).length ≤ 64) := whoT_len mask
  rw [← hz]
  obtain ⟨W1, hW1⟩ : ∃ W1, W1 = w.alloc (.cells #[.slice none 0 0] 88) := ⟨_, rfl⟩
  have HB1 : Hid (Below w.heap.size w W1) := by rw [hW1]; exact below1
  have M1 : Hid (W1.heap[w.heap.size]? = some (.cells #[.slice none 0 0] 88 (0, 0))) := by rw [hW1]; exact heap_alloc_last w _
  have HZ1 : Hid (W1.heap.size = w.heap.size + 1) := by show _ = _; rw [hW1]; simp
  have HW1 := Lib.hid hW1
  have HE : Hid (∀ W, Calls Try.prog 77 #[.int .u64 (mask.toNat : Int)] W fun e w' => e = .returned (.func (.func 91) #[] #[.pointer (some ⟨W.heap.size, 0, none⟩)]) ∧ w' = W.alloc (.cells #[.int .u64 (mask.toNat : Int)] 28)) := fun W => stakeEach _ W
  have HD := Lib.hid (fun (w2 : World) (s0 D bt : Nat) (hs0 : s0 ≤ w2.heap.size) (hDb : D < bt) t0 => each_stops 2 (by omega) mask s0 D bt w2 hs0 hDb t0)
  obtain ⟨m, hm⟩ : ∃ m, m = (mask.toNat : Int) := ⟨_, rfl⟩
  rw [← hm] at HE HD
  rw [← hm]
  clear hW1 hz hm
  refine callsIn_wide.1 (callsIn_of_wp_marks (n := 3) Try.func58 rfl trivial (wpIn_wide.2 ?_))
  simp only [Try.ntmps58, List.size_toArray, List.length_cons, List.length_nil, Nat.reduceAdd, Nat.reduceSub, Array.replicate_succ, Array.replicate_zero, List.push_toArray, List.append_toArray, List.nil_append, List.cons_append]
  go_wp2_with fail
  rw [← HW1.out]
  refine (HE.out W1).mono ?_
  rintro e w2 ⟨rfl, hw2⟩
  have hB2 : Below W1.heap.size W1 w2 := by rw [hw2]; exact below1
  have t0 : w2.heap[W1.heap.size]? = some (.cells #[.int .u64 m] 28 (0, 0)) := by rw [hw2]; exact heap_alloc_last W1 _
  have hz2 : w2.heap.size = W1.heap.size + 1 := by rw [hw2]; simp
  have HBw : Hid (Below w.heap.size w w2) := belowT HB1.out hB2
  have HSZ : Hid (w.heap.size < W1.heap.size ∧ W1.heap.size < w2.heap.size) := by
    show _ ∧ _
    have := HZ1.out
    omega
  have HDn := Lib.hid (HD.out w2 w.heap.size w.heap.size W1.heap.size (by have := HSZ.out; omega) (by have := HSZ.out; omega) t0)
  have HKs : Hid (w2.heap[w.heap.size]? = some (.cells #[.slice none 0 0] 88 (0, 0))) := blk_keep hB2 M1.out
  clear hw2 hB2 t0 hz2 HD HE
  go_wp2_with fail
  refine (wpIn_wide (n := 3)).1 ?_
  refine wpIn_rangeFunc_ownF (w0 := w2) rfl (by omega) (gf := 91) (lb := #[.pointer (some ⟨W1.heap.size, 0, none⟩)]) rfl trivial (entersE Try.func91 (by kernel_rfl) (by kernel_rfl))
    HDn.out butK_t (butK_b (by have := HSZ.out; omega) (Nat.le_refl _)) (Below.refl _ _) (fun _ => rfl)
    (fun pre W => Out11 w.heap.size w2.heap.size (toZ11 (pre.map Subtype.val)) W ∧ But w.heap.size w2.heap.size w.heap.size w2 W)
    (fun _ _ _ => False)
    (OwnFrom.and (out11_own _ (by have := HSZ.out; omega)) (But.own (Nat.le_refl _) (Nat.le_refl _) (by have := HSZ.out; omega))) (fun _ _ _ _ _ h _ _ => h)
    ⟨⟨_, HKs.out, ownE_nil _ _ _⟩, But.refl _ _ _ _⟩ ?a1 ?assign ?body ?done ?stop
  case assign =>
    intro lo x W K hK
    gi_wp2
    exact hK
  case body =>
    rintro lo pre x W ⟨⟨v, hp, ho⟩, hB⟩ hlen
    obtain ⟨k, hk⟩ := x
    have HP := Lib.hid hp
    have HBW := Lib.hid hB
    have HO := Lib.hid ho
    have HE : Hid (toZ11 ((pre ++ [(⟨k, hk⟩ : { x : Nat // x ∈ whoT mask })]).map Subtype.val) = toZ11 (pre.map Subtype.val) ++ [(k : Int)]) := by show _ = _; rw [List.map_append, List.map_cons, List.map_nil, toZ11_snoc]
    obtain ⟨K, hK⟩ : ∃ K, K = toZ11 (pre.map Subtype.val) := ⟨_, rfl⟩
    have HKl : Hid (K.length ≤ 64) := by show K.length ≤ 64; rw [hK, toZ11_len, List.length_map]; have := HN.out; omega
    rw [← hK] at HE HO
    obtain ⟨m, hm⟩ : ∃ m, m = K.length := ⟨_, rfl⟩
    obtain ⟨pv, cv, rfl⟩ := ownE_len HO.out hm.symm
    have HM := Lib.hid hm
    obtain ⟨y1, y2⟩ := cell_of_box hp
    have HBS : Hid (w2.heap.size ≤ W.heap.size) := hB.below.size
    clear hp hB ho hlen hK hm
    show Code.wpIn _ _ _ _ (ownPostK _ _ _ (pre ++ [⟨k, hk⟩]) W) _ W
    gi_wp2_with (gi_at_builtin; refine wpListIn_append_E Kint _ rfl (.tmp 8) (.tmp 10) rfl w2.heap.size _ K rfl (ownE_alloc HO.out _) _ [(k : Int)] rfl (slE_lit _ [(k : Int)] 1 _ _ _ rfl (by simp) rfl) (by have := HKl.out; simp; omega) (by have := HBS.out; simp; omega) ?_; intro v' w' ho' hgr'; obtain ⟨vp, vc, hv⟩ := ownE_len ho' (n := m + 1) (by rw [List.length_append, HM.out]; rfl); rw [hv] at ho' hgr' ⊢; clear hv; have HO' := Lib.hid ho'; have HGR := Lib.hid hgr'; have HNR : Hid (∀ r, (Value.slice pv m cv).ownBlock = some r → w2.heap.size ≤ r) := (fun r e => (ownE_lt HO.out e).1); have HP' : Hid (w'.heap[w.heap.size]? = some (.cells #[.slice pv m cv] 88 (0, 0))) := (hgr'.1.block _ (Nat.lt_of_lt_of_le (by have := HSZ.out; omega) (Nat.le_trans HBS.out (by simp))) (fun e => by have := HNR.out _ e.symm; have := HSZ.out; omega)).trans (blk_keep below1 HP.out); have y3 := (cell_of_box HP'.out).1; have y4 := (cell_of_box HP'.out).2; clear ho' hgr')
    refine ⟨((KeepsOthers.alloc _ _).trans (KeepsOthers.of_grownBy HGR.out.1 (fun j o e hj => own_cellsR (ownE_alloc HO.out _) e hj))).trans (KeepsOthers.setCell _ _ _), ?_, ⟨_, box_set HP'.out _, ?_⟩, ?_⟩
    · exact (((But.refl _ _ _ _).then below1 (by have := HSZ.out; omega) HBS.out).grown11 HGR.out.1 HNR.out (by have := HSZ.out; omega) (by have := HBS.out; simp; omega)).setCell (Nat.le_refl _) _
    · show OwnE Eint _ _ _ (toZ11 ((pre ++ [(⟨k, hk⟩ : { x : Nat // x ∈ whoT mask })]).map Subtype.val))
      rw [HE.out]
      exact ownE_set HO'.out (by have := HSZ.out; omega) _
    · exact ((HBW.out.then below1 (by have := HSZ.out; omega) HBS.out).grown11 HGR.out.1 HNR.out (by have := HSZ.out; omega) (by have := HBS.out; simp; omega)).setCell (Nat.le_refl _) _
  case done =>
    rintro D ys W hD hys ⟨⟨v, hp, ho⟩, hB⟩ hK
    have hX : Hid (toZ11 (ys.map Subtype.val) = z) := by show _ = z; rw [hys, HZ.out]
    rw [hX.out] at ho
    obtain ⟨pv, cv, rfl⟩ := ownE_len ho rfl
    have c1 := (cell_of_box hp).1
    have HO := Lib.hid ho
    have HBf := Lib.hid (HBw.out.trans hB.below)
    have HKD := Lib.hid hK
    have HDw := Lib.hid hD
    have hDD : Hid (w.heap.size ≤ D) := by show _ ≤ _; have := HSZ.out; omega
    clear hp hB hK hys hD ho
    generalize z.length = m at *
    go_wp2_with fail
    exact leave_M (v := .slice pv m cv) HKD.out ⟨by simp [results, Try.results58, go_sem], ⟨_, rfl, ownE_slE (OwnFrom.putObj (own_own (E := Eint) (B := w2.heap.size) (base := w2.heap.size) (fun _ : List Nat => Value.slice pv m cv) (fun _ => z)) (s := []) _ HO.out HDw.out HKD.out rfl), below_shut HKD.out HBf.out hDD.out⟩⟩
  case stop =>
    rintro D c pre W hD hpre h
    exact h.elim
theorem enters_stakeWho : ∀ args w, (callFunc 58 args).run Try.prog w = .ok (.enter 58 args) w := entersE Try.func58 (by kernel_rfl) (by kernel_rfl)
end Go.Proofs.Ytlhnjaeocoafnaa
namespace Go.Proofs.Ytlhnjaeocoafnaa
open Go.RowKit Go.Maps
set_option maxRecDepth 100000

def kI (v : Nat) : Lit := .int .i64 (v : Int)
theorem kI_inj {a b : Nat} (h : kI a = kI b) : a = b := by
  injection h with _ h
  exact Int.ofNat.inj h
theorem isKey_kI (v : Nat) : WideAt.IsKeyLit (kI v) := trivial
/-- What is known of validator v, of the first n links. -/
def StK (l : List Lk) (n v : Nat) (g : UInt64) (D : DataW Unit) : Prop :=
  (g.toNat.testBit v = true ↔ GuK l n v) ∧ (¬ GuK l n v → (Maps.has D (kI v) = false ∧ ∀ i, i < n → hasK l i v = false) ∨ ∃ a, LaK l n v a ∧ Maps.has D (kI v) = true ∧ D.atKey (kI v) (iLk 0) = iLk (a : Int))
section
variable {l : List Lk} {n v : Nat} {g : UInt64} {D : DataW Unit}
theorem stK_zero : StK l 0 v 0 (.map []) :=
  ⟨⟨fun h => by simp at h, fun h => absurd h guK_zero⟩, fun _ => .inl ⟨rfl, fun i hi => absurd hi (Nat.not_lt_zero _)⟩⟩
theorem stK_no (h : hasK l n v = false) (hs : StK l n v g D) : StK l (n + 1) v g D := by
  refine ⟨hs.1.trans (guK_no h).symm, fun hg => ?_⟩
  rcases hs.2 (fun q => hg ((guK_no h).2 q)) with ⟨h1, h2⟩ | ⟨a, h1, h2⟩
  · refine .inl ⟨h1, fun i hi => ?_⟩
    by_cases e : i = n
    · rw [e]; exact h
    · exact h2 i (by omega)
  · exact .inr ⟨a, laK_no h h1, h2⟩
theorem stK_guilty (h : g.toNat.testBit v = true) (hs : StK l n v g D) : StK l (n + 1) v g D := by
  have hg := guK_mono (hs.1.1 h)
  exact ⟨⟨fun _ => hg, fun _ => h⟩, fun q => absurd hg q⟩
theorem or_other {u : Nat} (hu : u < 64) (hne : v ≠ u) : (g ||| bitK (u : Int)).toNat.testBit v = g.toNat.testBit v := by
  rw [UInt64.toNat_or, Nat.testBit_or, bitK_nat, bitN_nat hu, Nat.testBit_two_pow, decide_eq_false (fun e => hne e.symm), Bool.or_false]
theorem or_self {u : Nat} (hu : u < 64) : (g ||| bitK (u : Int)).toNat.testBit u = true := by
  rw [UInt64.toNat_or, Nat.testBit_or, bitK_nat, bitN_nat hu, Nat.testBit_two_pow, decide_eq_true rfl, Bool.or_true]
/-- Another one's bit and entry. -/
theorem stK_other {u : Nat} {g' : UInt64} (hne : v ≠ u) (hg : g'.toNat.testBit v = g.toNat.testBit v) (x : DataW Unit) (hs : StK l n v g D) : StK l n v g' (D.put (kI u) x) := by
  refine ⟨by rw [hg]; exact hs.1, fun q => ?_⟩
  have hk : kI u ≠ kI v := fun e => hne (kI_inj e).symm
  rcases hs.2 q with ⟨h1, h2⟩ | ⟨a, h1, h2, h3⟩
  · exact .inl ⟨by rw [has_put_other (fun e => hk e.symm)]; exact h1, h2⟩
  · exact .inr ⟨a, h1, by rw [has_put_other (fun e => hk e.symm)]; exact h2, by rw [atKey_put_other (fun e => hk e.symm)]; exact h3⟩
/-- One's own: behind a link that it attested. -/
theorem stK_self (hm : IsMap D) (hv : hasK l n v = true) {g' : UInt64} (hg : g'.toNat.testBit v = true ↔ GuK l (n + 1) v) : StK l (n + 1) v g' (D.put (kI v) (iLk (n : Int))) :=
  ⟨hg, fun _ => .inr ⟨n, laK_self hv, has_put_same hm (isKey_kI v) _, atKey_put_same hm (isKey_kI v) _ _⟩⟩
end
/-- Those who attested the link and are not guilty yet. -/
def leftU (m g : UInt64) : UInt64 := UInt64.ofNat (m.toNat &&& (18446744073709551615 - g.toNat))
theorem leftU_nat (m g : UInt64) : (leftU m g).toNat = m.toNat &&& (18446744073709551615 - g.toNat) := by
  unfold leftU
  rw [UInt64.toNat_ofNat', Nat.mod_eq_of_lt]
  exact Nat.lt_of_le_of_lt Nat.and_le_left m.toNat_lt
theorem leftU_bits (m g : UInt64) : bits .andNot .u64 (m.toNat : Int) (g.toNat : Int) = ((leftU m g).toNat : Int) := by
  rw [leftU_nat, u64_andNot_nat _ _ m.toNat_lt g.toNat_lt]
theorem leftU_has (m g : UInt64) {v : Nat} (h : v < 64) : hasB (leftU m g) v = (m.toNat.testBit v && !g.toNat.testBit v) := by
  unfold hasB
  have h1 := g.toNat_lt
  rw [leftU_nat, Nat.testBit_and, show 18446744073709551615 - g.toNat = 2 ^ 64 - (g.toNat + 1) by omega, Nat.testBit_two_pow_sub_succ (by omega), decide_eq_true h, Bool.true_and]
/-- Behind the first p of those of link j. -/
def InK (l : List Lk) (j : Nat) (L : List Nat) (p : Nat) (g : UInt64) (D : DataW Unit) : Prop := ∀ v, v < 64 → StK l (if v ∈ L.take p then j + 1 else j) v g D
section
variable {l : List Lk} {j p : Nat} {g0 g : UInt64} {D : DataW Unit} {L : List Nat}
theorem inK_start (h : ∀ v, v < 64 → StK l j v g D) : InK l j L 0 g D := fun v hv => by rw [List.take_zero, if_neg (by simp)]; exact h v hv
theorem inK_end (hL : L = whoT (leftU (lkAt l j).mask g0)) (h0 : ∀ v, v < 64 → (g0.toNat.testBit v = true ↔ GuK l j v)) (h : InK l j L L.length g D) : ∀ v, v < 64 → StK l (j + 1) v g D := fun v hv => by
  have hs := h v hv
  rw [List.take_length] at hs
  by_cases hm : v ∈ L
  · rw [if_pos hm] at hs; exact hs
  · rw [if_neg hm] at hs
    have hb : hasB (leftU (lkAt l j).mask g0) v = false := by
      rw [← Bool.not_eq_true]
      intro e
      rw [hL] at hm
      exact hm (mem_who.2 ⟨hv, e⟩)
    rw [leftU_has _ _ hv, Bool.and_eq_false_iff] at hb
    rcases hb with hb | hb
    · exact stK_no hb hs
    · have hg : g0.toNat.testBit v = true := by simpa using hb
      exact stK_guilty (hs.1.2 ((h0 v hv).1 hg)) hs
theorem who_nodup (hL : L = whoT (leftU (lkAt l j).mask g0)) (hp : p < L.length) : L[p] < 64 ∧ hasK l j L[p] = true ∧ g0.toNat.testBit L[p] = false ∧ L[p] ∉ L.take p := by
  have hm := List.getElem_mem hp
  have hs := who_sorted (leftU (lkAt l j).mask g0)
  rw [← hL] at hs
  obtain ⟨x, hx⟩ : ∃ x, x = L[p] := ⟨_, rfl⟩
  rw [← hx] at hm ⊢
  have h1 := mem_who.1 (show x ∈ whoT (leftU (lkAt l j).mask g0) by rw [← hL]; exact hm)
  have h2 := h1.2
  rw [leftU_has _ _ h1.1, Bool.and_eq_true] at h2
  refine ⟨h1.1, h2.1, by simpa using h2.2, fun hin => ?_⟩
  obtain ⟨i, hi, e⟩ := List.getElem_of_mem hin
  rw [List.getElem_take, hx] at e
  have hip : i < p := by rw [List.length_take] at hi; omega
  have := List.pairwise_iff_getElem.1 hs i p (by omega) hp hip
  omega
theorem take_mem (hp : p < L.length) {v : Nat} : v ∈ L.take (p + 1) ↔ v ∈ L.take p ∨ v = L[p] := by
  rw [List.take_succ_eq_append_getElem hp, List.mem_append, List.mem_singleton]
/-- One more of them. -/
theorem inK_next (hL : L = whoT (leftU (lkAt l j).mask g0)) (hp : p < L.length) (hm : IsMap D) {g' : UInt64} (ho : ∀ v, v ≠ L[p] → g'.toNat.testBit v = g.toNat.testBit v) (hg : g'.toNat.testBit L[p] = true ↔ GuK l (j + 1) L[p]) (h : InK l j L p g D) : InK l j L (p + 1) g' (D.put (kI L[p]) (iLk (j : Int))) := fun v hv => by
  obtain ⟨_, w2, _, w4⟩ := who_nodup hL hp
  by_cases e : v = L[p]
  · rw [if_pos ((take_mem hp).2 (.inr e)), e]
    exact stK_self hm w2 hg
  · have hi : (v ∈ L.take (p + 1)) ↔ (v ∈ L.take p) := (take_mem hp).trans ⟨fun h => h.resolve_right e, .inl⟩
    have hs := h v hv
    by_cases hq : v ∈ L.take p
    · rw [if_pos (hi.2 hq)]; rw [if_pos hq] at hs
      exact stK_other e (ho v e) _ hs
    · rw [if_neg (fun x => hq (hi.1 x))]; rw [if_neg hq] at hs
      exact stK_other e (ho v e) _ hs
/-- Which one is asked of, and what is known of it. -/
theorem inK_now (hL : L = whoT (leftU (lkAt l j).mask g0)) (h0 : ∀ v, v < 64 → (g0.toNat.testBit v = true ↔ GuK l j v)) (hp : p < L.length) (hr : Rise l) (hj : j < l.length) (h : InK l j L p g D) :
    (Maps.has D (kI L[p]) = false ∧ ¬ GuK l (j + 1) L[p] ∧ g.toNat.testBit L[p] = false) ∨ ∃ a, a < j ∧ Maps.has D (kI L[p]) = true ∧ D.atKey (kI L[p]) (iLk 0) = iLk (a : Int) ∧ (GuK l (j + 1) L[p] ↔ clashB (lkAt l a) (lkAt l j) = true) ∧ g.toNat.testBit L[p] = false := by
  obtain ⟨w1, w2, w3, w4⟩ := who_nodup hL hp
  have hs := h _ w1
  rw [if_neg w4] at hs
  have hn : ¬ GuK l j L[p] := fun q => by rw [(h0 _ w1).2 q] at w3; cases w3
  have hgb : g.toNat.testBit L[p] = false := by rw [← Bool.not_eq_true, hs.1]; exact hn
  rcases hs.2 hn with ⟨h1, h2⟩ | ⟨a, h1, h2, h3⟩
  · exact .inl ⟨h1, guK_first h2, hgb⟩
  · exact .inr ⟨a, h1.1, h2, h3, guK_last hr hj h1 hn w2, hgb⟩
end
/-- All of them: as the document says it. -/
theorem guilt_is {l ls : List Lk} (hp : ∀ x, x ∈ l ↔ x ∈ ls) {g : UInt64} {D : DataW Unit} (h : ∀ v, v < 64 → StK l l.length v g D) : g = guiltT ls := by
  rw [← UInt64.toNat_inj]
  refine Nat.eq_of_testBit_eq fun v => ?_
  by_cases hv : v < 64
  · rw [Bool.eq_iff_iff, (h v hv).1, guK_all hp]
  · have hb : ∀ x : UInt64, x.toNat.testBit v = false := fun x => Nat.testBit_lt_two_pow (Nat.lt_of_lt_of_le x.toNat_lt (Nat.pow_le_pow_right (by omega) (by omega)))
    rw [hb, hb]
end Go.Proofs.Ytlhnjaeocoafnaa
