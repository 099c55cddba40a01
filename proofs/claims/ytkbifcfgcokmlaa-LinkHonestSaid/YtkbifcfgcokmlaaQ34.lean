/-
  Who is guilty, by one walk over rising links, with who attested what last in a map: what each validator's bit and entry say, plainly.
-/
import Derived.Test.YtkbifcfgcokmlaaQ29
import Derived.Test.YtkbifcfgcokmlaaQ25
import Derived.Test.YtkbifcfgcokmlaaQ31
import Derived.Test.YtkbifcfgcokmlaaQ33
namespace Go.Proofs.Ytkbifcfgcokmlaa
open Go.RowKit Go.Maps
set_option maxRecDepth 100000

def kI (v : Nat) : Lit := .int .i64 (v : Int)
theorem kI_inj {a b : Nat} (h : kI a = kI b) : a = b := by
  injection h with _ h
  exact Int.ofNat.inj h
theorem isKey_kI (v : Nat) : WideAt.IsKeyLit (kI v) := trivial
/-- What is known of validator v, of the first n links. -/
def StK (l : List Lk) (n v : Nat) (g : UInt64) (D : DataW Unit) : Prop :=
  (g.toNat.testBit v = true ↔ GuK l n v) ∧ (¬ GuK l n v → (Maps.has D (kI v) = false ∧ ∀ i, i < n → hasK l i v = false) ∨ ∃ a, LaK l n v a ∧ Maps.has D (kI v) = true ∧ D.atKey (kI v) (iLk 0) = iLk (a : Int))
section
variable {l : List Lk} {n v : Nat} {g : UInt64} {D : DataW Unit}
theorem stK_zero : StK l 0 v 0 (.map []) :=
  ⟨⟨fun h => by simp at h, fun h => absurd h guK_zero⟩, fun _ => .inl ⟨rfl, fun i hi => absurd hi (Nat.not_lt_zero _)⟩⟩
theorem stK_no (h : hasK l n v = false) (hs : StK l n v g D) : StK l (n + 1) v g D := by
  refine ⟨hs.1.trans (guK_no h).symm, fun hg => ?_⟩
  rcases hs.2 (fun q => hg ((guK_no h).2 q)) with ⟨h1, h2⟩ | ⟨a, h1, h2⟩
  · refine .inl ⟨h1, fun i hi => ?_⟩
    by_cases e : i = n
    · rw [e]; exact h
    · exact h2 i (by omega)
  · exact .inr ⟨a, laK_no h h1, h2⟩
theorem stK_guilty (h : g.toNat.testBit v = true) (hs : StK l n v g D) : StK l (n + 1) v g D := by
  have hg := guK_mono (hs.1.1 h)
  exact ⟨⟨fun _ => hg, fun _ => h⟩, fun q => absurd hg q⟩
theorem or_other {u : Nat} (hu : u < 64) (hne : v ≠ u) : (g ||| bitK (u : Int)).toNat.testBit v = g.toNat.testBit v := by
  rw [UInt64.toNat_or, Nat.testBit_or, bitK_nat, bitN_nat hu, Nat.testBit_two_pow, decide_eq_false (fun e => hne e.symm), Bool.or_false]
theorem or_self {u : Nat} (hu : u < 64) : (g ||| bitK (u : Int)).toNat.testBit u = true := by
  rw [UInt64.toNat_or, Nat.testBit_or, bitK_nat, bitN_nat hu, Nat.testBit_two_pow, decide_eq_true rfl, Bool.or_true]
/-- Another one's bit and entry. -/
theorem stK_other {u : Nat} {g' : UInt64} (hne : v ≠ u) (hg : g'.toNat.testBit v = g.toNat.testBit v) (x : DataW Unit) (hs : StK l n v g D) : StK l n v g' (D.put (kI u) x) := by
  refine ⟨by rw [hg]; exact hs.1, fun q => ?_⟩
  have hk : kI u ≠ kI v := fun e => hne (kI_inj e).symm
  rcases hs.2 q with ⟨h1, h2⟩ | ⟨a, h1, h2, h3⟩
  · exact .inl ⟨by rw [has_put_other (fun e => hk e.symm)]; exact h1, h2⟩
  · exact .inr ⟨a, h1, by rw [has_put_other (fun e => hk e.symm)]; exact h2, by rw [atKey_put_other (fun e => hk e.symm)]; exact h3⟩
/-- One's own: behind a link that it attested. -/
theorem stK_self (hm : IsMap D) (hv : hasK l n v = true) {g' : UInt64} (hg : g'.toNat.testBit v = true ↔ GuK l (n + 1) v) : StK l (n + 1) v g' (D.put (kI v) (iLk (n : Int))) :=
  ⟨hg, fun _ => .inr ⟨n, laK_self hv, has_put_same hm (isKey_kI v) _, atKey_put_same hm (isKey_kI v) _ _⟩⟩
end
/-- Those who attested the link and are not guilty yet. -/
def leftU (m g : UInt64) : UInt64 := UInt64.ofNat (m.toNat &&& (18446744073709551615 - g.toNat))
theorem leftU_nat (m g : UInt64) : (leftU m g).toNat = m.toNat &&& (18446744073709551615 - g.toNat) := by
  unfold leftU
  rw [UInt64.toNat_ofNat', Nat.mod_eq_of_lt]
  exact Nat.lt_of_le_of_lt Nat.and_le_left m.toNat_lt
theorem leftU_bits (m g : UInt64) : bits .andNot .u64 (m.toNat : Int) (g.toNat : Int) = ((leftU m g).toNat : Int) := by
  rw [leftU_nat, u64_andNot_nat _ _ m.toNat_lt g.toNat_lt]
theorem leftU_has (m g : UInt64) {v : Nat} (h : v < 64) : hasB (leftU m g) v = (m.toNat.testBit v && !g.toNat.testBit v) := by
  unfold hasB
  have h1 := g.toNat_lt
  rw [leftU_nat, Nat.testBit_and, show 18446744073709551615 - g.toNat = 2 ^ 64 - (g.toNat + 1) by omega, Nat.testBit_two_pow_sub_succ (by omega), decide_eq_true h, Bool.true_and]
/-- Behind the first p of those of link j. -/
def InK (l : List Lk) (j : Nat) (L : List Nat) (p : Nat) (g : UInt64) (D : DataW Unit) : Prop := ∀ v, v < 64 → StK l (if v ∈ L.take p then j + 1 else j) v g D
section
variable {l : List Lk} {j p : Nat} {g0 g : UInt64} {D : DataW Unit} {L : List Nat}
theorem inK_start (h : ∀ v, v < 64 → StK l j v g D) : InK l j L 0 g D := fun v hv => by rw [List.take_zero, if_neg (by simp)]; exact h v hv
theorem inK_end (hL : L = whoT (leftU (lkAt l j).mask g0)) (h0 : ∀ v, v < 64 → (g0.toNat.testBit v = true ↔ GuK l j v)) (h : InK l j L L.length g D) : ∀ v, v < 64 → StK l (j + 1) v g D := fun v hv => by
  have hs := h v hv
  rw [List.take_length] at hs
  by_cases hm : v ∈ L
  · rw [if_pos hm] at hs; exact hs
  · rw [if_neg hm] at hs
    have hb : hasB (leftU (lkAt l j).mask g0) v = false := by
      rw [← Bool.not_eq_true]
      intro e
      rw [hL] at hm
      exact hm (mem_who.2 ⟨hv, e⟩)
    rw [leftU_has _ _ hv, Bool.and_eq_false_iff] at hb
    rcases hb with hb | hb
    · exact stK_no hb hs
    · have hg : g0.toNat.testBit v = true := by simpa using hb
      exact stK_guilty (hs.1.2 ((h0 v hv).1 hg)) hs
theorem who_nodup (hL : L = whoT (leftU (lkAt l j).mask g0)) (hp : p < L.length) : L[p] < 64 ∧ hasK l j L[p] = true ∧ g0.toNat.testBit L[p] = false ∧ L[p] ∉ L.take p := by
  have hm := List.getElem_mem hp
  have hs := who_sorted (leftU (lkAt l j).mask g0)
  rw [← hL] at hs
  obtain ⟨x, hx⟩ : ∃ x, x = L[p] := ⟨_, rfl⟩
  rw [← hx] at hm ⊢
  have h1 := mem_who.1 (show x ∈ whoT (leftU (lkAt l j).mask g0) by rw [← hL]; exact hm)
  have h2 := h1.2
  rw [leftU_has _ _ h1.1, Bool.and_eq_true] at h2
  refine ⟨h1.1, h2.1, by simpa using h2.2, fun hin => ?_⟩
  obtain ⟨i, hi, e⟩ := List.getElem_of_mem hin
  rw [List.getElem_take, hx] at e
  have hip : i < p := by rw [List.length_take] at hi; omega
  have := List.pairwise_iff_getElem.1 hs i p (by omega) hp hip
  omega
theorem take_mem (hp : p < L.length) {v : Nat} : v ∈ L.take (p + 1) ↔ v ∈ L.take p ∨ v = L[p] := by
  rw [List.take_succ_eq_append_getElem hp, List.mem_append, List.mem_singleton]
/-- One more of them. -/
theorem inK_next (hL : L = whoT (leftU (lkAt l j).mask g0)) (hp : p < L.length) (hm : IsMap D) {g' : UInt64} (ho : ∀ v, v ≠ L[p] → g'.toNat.testBit v = g.toNat.testBit v) (hg : g'.toNat.testBit L[p] = true ↔ GuK l (j + 1) L[p]) (h : InK l j L p g D) : InK l j L (p + 1) g' (D.put (kI L[p]) (iLk (j : Int))) := fun v hv => by
  obtain ⟨_, w2, _, w4⟩ := who_nodup hL hp
  by_cases e : v = L[p]
  · rw [if_pos ((take_mem hp).2 (.inr e)), e]
    exact stK_self hm w2 hg
  · have hi : (v ∈ L.take (p + 1)) ↔ (v ∈ L.take p) := (take_mem hp).trans ⟨fun h => h.resolve_right e, .inl⟩
    have hs := h v hv
    by_cases hq : v ∈ L.take p
    · rw [if_pos (hi.2 hq)]; rw [if_pos hq] at hs
      exact stK_other e (ho v e) _ hs
    · rw [if_neg (fun x => hq (hi.1 x))]; rw [if_neg hq] at hs
      exact stK_other e (ho v e) _ hs
/-- Which one is asked of, and what is known of it. -/
theorem inK_now (hL : L = whoT (leftU (lkAt l j).mask g0)) (h0 : ∀ v, v < 64 → (g0.toNat.testBit v = true ↔ GuK l j v)) (hp : p < L.length) (hr : Rise l) (hj : j < l.length) (h : InK l j L p g D) :
    (Maps.has D (kI L[p]) = false ∧ ¬ GuK l (j + 1) L[p] ∧ g.toNat.testBit L[p] = false) ∨ ∃ a, a < j ∧ Maps.has D (kI L[p]) = true ∧ D.atKey (kI L[p]) (iLk 0) = iLk (a : Int) ∧ (GuK l (j + 1) L[p] ↔ clashB (lkAt l a) (lkAt l j) = true) ∧ g.toNat.testBit L[p] = false := by
  obtain ⟨w1, w2, w3, w4⟩ := who_nodup hL hp
  have hs := h _ w1
  rw [if_neg w4] at hs
  have hn : ¬ GuK l j L[p] := fun q => by rw [(h0 _ w1).2 q] at w3; cases w3
  have hgb : g.toNat.testBit L[p] = false := by rw [← Bool.not_eq_true, hs.1]; exact hn
  rcases hs.2 hn with ⟨h1, h2⟩ | ⟨a, h1, h2, h3⟩
  · exact .inl ⟨h1, guK_first h2, hgb⟩
  · exact .inr ⟨a, h1.1, h2, h3, guK_last hr hj h1 hn w2, hgb⟩
end
/-- All of them: as the document says it. -/
theorem guilt_is {l ls : List Lk} (hp : ∀ x, x ∈ l ↔ x ∈ ls) {g : UInt64} {D : DataW Unit} (h : ∀ v, v < 64 → StK l l.length v g D) : g = guiltT ls := by
  rw [← UInt64.toNat_inj]
  refine Nat.eq_of_testBit_eq fun v => ?_
  by_cases hv : v < 64
  · rw [Bool.eq_iff_iff, (h v hv).1, guK_all hp]
  · have hb : ∀ x : UInt64, x.toNat.testBit v = false := fun x => Nat.testBit_lt_two_pow (Nat.lt_of_lt_of_le x.toNat_lt (Nat.pow_le_pow_right (by omega) (by omega)))
    rw [hb, hb]
end Go.Proofs.Ytkbifcfgcokmlaa
