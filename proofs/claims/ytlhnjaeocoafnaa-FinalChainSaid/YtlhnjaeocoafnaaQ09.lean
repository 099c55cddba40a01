/-
  What is justified, plainly, from some on, what may be final; accountable safety.
  What is justified, as a list; what may be final, the next, the best one, one chain: plainly; what the laws of layer 16 want of them.
-/
import Derived.Test.YtlhnjaeocoafnaaQ04
import Derived.Test.YtlhnjaeocoafnaaQ08
namespace Go.Proofs.Ytlhnjaeocoafnaa
set_option maxRecDepth 100000

/-! ### behind, and what counts -/
def behindB (l : List Nd) (c d : Ck) : Bool := aboveZ l (findT l d.root) (findT l c.root)
section
variable {l : List Nd}
theorem behind_parts {c d : Ck} (h : behindB l c d = true) : ∃ i k : Nat, MayT l ∧ findT l d.root = i ∧ findT l c.root = k ∧ i < l.length ∧ k < l.length ∧ aboveT l i k = true := by
  unfold behindB aboveZ at h
  rw [Bool.and_eq_true, Bool.and_eq_true, isT_iff, isT_iff] at h
  exact ⟨(findT l d.root).toNat, (findT l c.root).toNat, h.1.1.1, by omega, by omega, by omega, by omega, h.2⟩
theorem behind_mk (hm : MayT l) {c d : Ck} {i k : Nat} (hd : findT l d.root = i) (hc : findT l c.root = k) (hi : i < l.length) (hk : k < l.length) (ha : aboveT l i k = true) : behindB l c d = true := by
  unfold behindB
  rw [hd, hc, aboveZ_nat hm hi hk]; exact ha
theorem behind_trans {a b c : Ck} (h : behindB l a b = true) (k : behindB l b c = true) : behindB l a c = true := by
  obtain ⟨i, j, hm, e1, e2, hi, hj, h1⟩ := behind_parts h
  obtain ⟨p, q, _, e3, e4, hp, hq, h2⟩ := behind_parts k
  obtain rfl : q = i := by omega
  exact behind_mk hm e3 e2 hp hj (above_trans hm h2 j hj h1)
theorem behind_self {c d : Ck} (h : behindB l c d = true) : behindB l c c = true := by
  obtain ⟨i, j, hm, _, e2, _, hj, _⟩ := behind_parts h
  exact behind_mk hm e2 e2 hj hj (above_refl hm hj)
end
/-- What is justified from some on, by links that count. -/
inductive JustR (cnt : Lk → Prop) (ls : List Lk) (b : Ck → Prop) : Ck → Prop
  | base {c : Ck} (h : b c) : JustR cnt ls b c
  | step {k : Lk} (hk : k ∈ ls) (hc : cnt k) (hs : JustR cnt ls b k.s) : JustR cnt ls b k.t
/-- What may be final. -/
def FinalR (cnt : Lk → Prop) (ls : List Lk) (b : Ck → Prop) (c : Ck) : Prop := JustR cnt ls b c ∧ ∃ k, k ∈ ls ∧ cnt k ∧ k.s = c ∧ k.t.epoch.toNat = c.epoch.toNat + 1 ∧ JustR cnt ls b k.t

section
variable {l : List Nd} {ls : List Lk} {cnt : Lk → Prop} {b : Ck}
/-- ACCOUNTABLE SAFETY: where no two that count clash, all that may be final, from one on, are on one chain. -/
theorem safe (hup : ∀ k, k ∈ ls → k.s.epoch.toNat < k.t.epoch.toNat) (hbeh : ∀ k, k ∈ ls → cnt k → behindB l k.t k.s = true)
    (hno : ∀ a c, a ∈ ls → c ∈ ls → cnt a → cnt c → clashB a c = false) (hb : behindB l b b = true) :
    (∀ c, JustR cnt ls (· = b) c → behindB l c b = true ∧ (c = b ∨ b.epoch.toNat < c.epoch.toNat)) ∧
    (∀ c d, JustR cnt ls (· = b) c → JustR cnt ls (· = b) d → c.epoch.toNat = d.epoch.toNat → c = d) ∧
    (∀ c d, FinalR cnt ls (· = b) c → JustR cnt ls (· = b) d → c.epoch.toNat ≤ d.epoch.toNat → behindB l d c = true) := by
  have h1 : ∀ c, JustR cnt ls (· = b) c → behindB l c b = true ∧ (c = b ∨ b.epoch.toNat < c.epoch.toNat) := by
    intro c hc
    induction hc with
    | base h => subst h; exact ⟨hb, .inl rfl⟩
    | step hk hc hs ih =>
      refine ⟨behind_trans (hbeh _ hk hc) ih.1, .inr ?_⟩
      have := hup _ hk
      rcases ih.2 with e | e
      · rw [e] at this; exact this
      · omega
  have last : ∀ c, JustR cnt ls (· = b) c → c = b ∨ ∃ k, k ∈ ls ∧ cnt k ∧ JustR cnt ls (· = b) k.s ∧ k.t = c := fun c hc => by
    cases hc with
    | base h => exact .inl h
    | step hk hcn hs => exact .inr ⟨_, hk, hcn, hs, rfl⟩
  have same : ∀ a c, a ∈ ls → c ∈ ls → cnt a → cnt c → a.t.epoch.toNat = c.t.epoch.toNat → a.s = c.s ∧ a.t = c.t := fun a c ha hc hca hcc he => by
    have h := hno a c ha hc hca hcc
    unfold clashB at h
    rw [Bool.or_eq_false_iff, decide_eq_true (UInt64.toNat_inj.1 he), Bool.and_true, Bool.not_eq_false'] at h
    unfold oneB at h
    rw [decide_eq_true_iff] at h
    exact h.1
  have h2 : ∀ c d, JustR cnt ls (· = b) c → JustR cnt ls (· = b) d → c.epoch.toNat = d.epoch.toNat → c = d := by
    intro c d hc hd he
    rcases last c hc with e1 | ⟨k, hk, hkc, _, rfl⟩
    · rcases (h1 d hd).2 with e2 | e2
      · rw [e1, e2]
      · rw [e1] at he; omega
    · rcases last d hd with e2 | ⟨m, hm, hmc, _, rfl⟩
      · rcases (h1 _ hc).2 with e3 | e3
        · rw [e3, e2]
        · rw [e2] at he; omega
      · exact (same k m hk hm hkc hmc he).2
  refine ⟨h1, h2, ?_⟩
  intro c d hc hd
  obtain ⟨hcj, f, hf, hfc, hfs, hfe, _⟩ := hc
  induction hd with
  | base h =>
    intro hle
    subst h
    have e : c = _ := h2 c _ hcj (.base rfl) (by
      rcases (h1 c hcj).2 with e | e
      · rw [e]
      · omega)
    rw [e]; exact hb
  | @step k hk hkc hks ih =>
    intro hle
    by_cases he : c.epoch.toNat = k.t.epoch.toNat
    · have e := h2 c k.t hcj (.step hk hkc hks) he
      rw [e]
      exact behind_self (hbeh k hk hkc)
    · by_cases hs : c.epoch.toNat ≤ k.s.epoch.toNat
      · exact behind_trans (hbeh k hk hkc) (ih hs)
      · exfalso
        have hno' := hno k f hk hf hkc hfc
        by_cases ht : k.t.epoch.toNat = f.t.epoch.toNat
        · have := (same k f hk hf hkc hfc ht).1
          rw [hfs] at this
          rw [this] at hs
          omega
        · unfold clashB roundB at hno'
          rw [Bool.or_eq_false_iff, Bool.or_eq_false_iff, decide_eq_false_iff_not] at hno'
          refine hno'.2.1 ⟨?_, ?_⟩
          · rw [hfs]; omega
          · omega
/-- The same, where those who are guilty are less than one third. -/
theorem safe_third {most some_ : UInt64 → Bool} (hcommon : ∀ x y, most x = true → most y = true → some_ (x &&& y) = true) (hmono : ∀ x y, subM x y → some_ x = true → some_ y = true)
    (hup : ∀ k, k ∈ ls → k.s.epoch.toNat < k.t.epoch.toNat) (hg : some_ (guiltT ls) = false) (hb : behindB l b b = true) :
    ∀ c d, (c = b ∨ FinalR (fun k => behindB l k.t k.s = true ∧ most k.mask = true) ls (· = b) c) → (d = b ∨ FinalR (fun k => behindB l k.t k.s = true ∧ most k.mask = true) ls (· = b) d) → behindB l c d = true ∨ behindB l d c = true := by
  obtain ⟨h1, _, h3⟩ := safe (l := l) (ls := ls) (cnt := fun k => behindB l k.t k.s = true ∧ most k.mask = true) (b := b) hup (fun k _ hc => hc.1) (fun a c ha hc hca hcc => by
    rw [← Bool.not_eq_true]
    intro hcl
    have := hmono _ _ (guilt_pair ha hc hcl) (hcommon _ _ hca.2 hcc.2)
    rw [hg] at this; cases this) hb
  intro c d hc hd
  rcases hc with rfl | hc
  · rcases hd with rfl | hd
    · exact .inl hb
    · exact .inr (h1 d hd.1).1
  · rcases hd with rfl | hd
    · exact .inl (h1 c hc.1).1
    · rcases Nat.le_total c.epoch.toNat d.epoch.toNat with hle | hle
      · exact .inr (h3 c d hc hd.1 hle)
      · exact .inl (h3 d c hd hc.1 hle)
end
end Go.Proofs.Ytlhnjaeocoafnaa
namespace Go.Proofs.Ytlhnjaeocoafnaa
set_option maxRecDepth 100000

section
variable (cnt : Lk → Bool)
def freshB (js : List Ck) (k : Lk) : Bool := cnt k && (decide (k.s ∈ js) && !decide (k.t ∈ js))
def findNew (ls : List Lk) (js : List Ck) : Option Lk := ls.find? (freshB cnt js)
def moreF (ls : List Lk) : Nat → List Ck → List Ck
  | 0, js => js
  | f + 1, js => match findNew cnt ls js with
    | none => js
    | some k => moreF ls f (js ++ [k.t])
def moreT (ls : List Lk) (js : List Ck) : List Ck := moreF cnt ls ls.length js
def openN (ls : List Lk) (js : List Ck) : Nat := (ls.filter fun k => !decide (k.t ∈ js)).length
end
section
variable {cnt : Lk → Bool} {ls : List Lk}
theorem new_parts {js : List Ck} {k : Lk} (h : findNew cnt ls js = some k) : k ∈ ls ∧ cnt k = true ∧ k.s ∈ js ∧ k.t ∉ js := by
  have h1 := List.find?_some h
  have h2 := List.mem_of_find?_eq_some h
  unfold freshB at h1
  rw [Bool.and_eq_true, Bool.and_eq_true, decide_eq_true_iff, Bool.not_eq_true', decide_eq_false_iff_not] at h1
  exact ⟨h2, h1.1, h1.2.1, h1.2.2⟩
theorem new_none {js : List Ck} (h : findNew cnt ls js = none) {k : Lk} (hk : k ∈ ls) (hc : cnt k = true) (hs : k.s ∈ js) : k.t ∈ js := by
  have := (List.find?_eq_none.1 h) k hk
  unfold freshB at this
  rw [hc, decide_eq_true hs, Bool.true_and, Bool.true_and, Bool.not_eq_true', decide_eq_false_iff_not] at this
  exact Classical.not_not.1 this
theorem filter_len_lt {α : Type} (p q : α → Bool) (hpq : ∀ a, q a = true → p a = true) {x : α} : ∀ (l : List α), x ∈ l → p x = true → q x = false → (l.filter q).length < (l.filter p).length
  | [], hx, _, _ => by cases hx
  | a :: l, hx, h1, h2 => by
    have le : ∀ m : List α, (m.filter q).length ≤ (m.filter p).length := by
      intro m
      induction m with
      | nil => exact Nat.le_refl _
      | cons b m ih =>
        rw [List.filter_cons, List.filter_cons]
        by_cases hq : q b = true
        · rw [if_pos hq, if_pos (hpq b hq), List.length_cons, List.length_cons]; omega
        · rw [if_neg hq]
          split
          · rw [List.length_cons]; omega
          · exact ih
    rw [List.filter_cons, List.filter_cons]
    by_cases e : a = x
    · subst e
      rw [if_pos h1, if_neg (by rw [h2]; exact Bool.false_ne_true), List.length_cons]
      have := le l
      omega
    · have hx' : x ∈ l := (List.mem_cons.1 hx).resolve_left (fun e2 => e e2.symm)
      have ih := filter_len_lt p q hpq l hx' h1 h2
      by_cases hq : q a = true
      · rw [if_pos hq, if_pos (hpq a hq), List.length_cons, List.length_cons]; omega
      · rw [if_neg hq]
        split
        · rw [List.length_cons]; omega
        · exact ih
set_option maxRecDepth 100000 in
theorem open_less {js : List Ck} {k : Lk} (h : findNew cnt ls js = some k) : openN ls (js ++ [k.t]) < openN ls js := by
  obtain ⟨h1, _, _, h4⟩ := new_parts h
  refine filter_len_lt _ _ (fun a ha => ?_) ls h1 ?_ ?_
  · rw [Bool.not_eq_true', decide_eq_false_iff_not] at *
    exact fun e => ha (List.mem_append_left _ e)
  · rw [Bool.not_eq_true', decide_eq_false_iff_not]; exact h4
  · rw [Bool.not_eq_false', decide_eq_true_iff]; simp
set_option maxRecDepth 100000 in
theorem open_le (js : List Ck) : openN ls js ≤ ls.length := List.length_filter_le _ _
theorem more_closed : ∀ (f : Nat) (js : List Ck), openN ls js ≤ f → findNew cnt ls (moreF cnt ls f js) = none
  | 0, js, h => by
    cases e : findNew cnt ls js with
    | none => exact e
    | some k => have := open_less e; omega
  | f + 1, js, h => by
    cases e : findNew cnt ls js with
    | none => simp only [moreF, e]
    | some k =>
      have := open_less e
      simp only [moreF, e]
      exact more_closed f _ (by omega)
theorem more_none {js : List Ck} (h : findNew cnt ls js = none) (f : Nat) : moreF cnt ls f js = js := by
  cases f with
  | zero => rfl
  | succ f => simp only [moreF, h]
theorem more_idem (js : List Ck) : moreT cnt ls (moreT cnt ls js) = moreT cnt ls js := more_none (more_closed _ _ (open_le js)) _
/-- One more step: the same in the end, with whatever fuel is enough. -/
theorem more_fuel : ∀ (f g : Nat) (js : List Ck), openN ls js ≤ f → openN ls js ≤ g → moreF cnt ls f js = moreF cnt ls g js
  | 0, g, js, h, _ => by
    cases e : findNew cnt ls js with
    | none => rw [more_none e, more_none e]
    | some k => have := open_less e; omega
  | f + 1, 0, js, _, h => by
    cases e : findNew cnt ls js with
    | none => rw [more_none e, more_none e]
    | some k => have := open_less e; omega
  | f + 1, g + 1, js, h1, h2 => by
    cases e : findNew cnt ls js with
    | none => rw [more_none e, more_none e]
    | some k =>
      have := open_less e
      simp only [moreF, e]
      exact more_fuel f g _ (by omega) (by omega)
theorem more_step {js : List Ck} {k : Lk} (h : findNew cnt ls js = some k) : moreT cnt ls js = moreT cnt ls (js ++ [k.t]) := by
  have := open_less h
  have h1 := open_le (ls := ls) js
  obtain ⟨f, hf⟩ : ∃ f, ls.length = f + 1 := ⟨ls.length - 1, by omega⟩
  unfold moreT
  rw [hf]
  rw [show moreF cnt ls (f + 1) js = moreF cnt ls f (js ++ [k.t]) by simp only [moreF, h]]
  exact more_fuel _ _ _ (by omega) (by omega)
/-- Each that comes is the target of one that counts, from one that was there; it was not. -/
theorem more_sound : ∀ (f : Nat) (js : List Ck), ∃ ext, moreF cnt ls f js = js ++ ext ∧ ∀ i, i < ext.length → ∃ k, k ∈ ls ∧ cnt k = true ∧ k.s ∈ js ++ ext.take i ∧ some k.t = ext[i]? ∧ k.t ∉ js ++ ext.take i
  | 0, js => ⟨[], by simp [moreF], fun i hi => by simp at hi⟩
  | f + 1, js => by
    cases e : findNew cnt ls js with
    | none => exact ⟨[], by simp [moreF, e], fun i hi => by simp at hi⟩
    | some k =>
      obtain ⟨h1, h2, h3, h4⟩ := new_parts e
      obtain ⟨ext, he, hall⟩ := more_sound f (js ++ [k.t])
      refine ⟨k.t :: ext, by simp only [moreF, e]; rw [he]; simp, fun i hi => ?_⟩
      cases i with
      | zero => exact ⟨k, h1, h2, by simpa using h3, rfl, by simpa using h4⟩
      | succ i =>
        obtain ⟨m, a, b, c, d, g⟩ := hall i (by simpa using hi)
        exact ⟨m, a, b, by simpa using c, by simpa using d, by simpa using g⟩
theorem more_len (js : List Ck) : js.length ≤ (moreT cnt ls js).length := by
  obtain ⟨ext, e, _⟩ := more_sound (cnt := cnt) (ls := ls) ls.length js
  unfold moreT
  rw [e, List.length_append]; omega
/-- What is justified. -/
theorem more_iff (js : List Ck) (c : Ck) : c ∈ moreT cnt ls js ↔ JustR (fun k => cnt k = true) ls (· ∈ js) c := by
  constructor
  · intro h
    obtain ⟨ext, e, hall⟩ := more_sound (cnt := cnt) (ls := ls) ls.length js
    unfold moreT at h
    rw [e] at h
    have key : ∀ i, i ≤ ext.length → ∀ d, d ∈ js ++ ext.take i → JustR (fun k => cnt k = true) ls (· ∈ js) d := by
      intro i
      induction i with
      | zero => intro _ d hd; exact .base (by simpa using hd)
      | succ i ih =>
        intro hi d hd
        obtain ⟨k, a, b, c', t, _⟩ := hall i (by omega)
        rw [List.take_add_one, ← t] at hd
        simp only [Option.toList_some, List.mem_append, List.mem_singleton] at hd
        rcases hd with hd | hd | hd
        · exact ih (by omega) d (List.mem_append_left _ hd)
        · exact ih (by omega) d (List.mem_append_right _ hd)
        · subst hd
          exact .step a b (ih (by omega) _ c')
    exact key ext.length (Nat.le_refl _) c (by rw [List.take_length]; exact h)
  · intro h
    induction h with
    | base h =>
      obtain ⟨ext, e, _⟩ := more_sound (cnt := cnt) (ls := ls) ls.length js
      unfold moreT
      rw [e]
      exact List.mem_append_left _ h
    | step hk hc _ ih => exact new_none (more_closed _ _ (open_le js)) hk hc ih
theorem just_mono {cnt : Lk → Prop} {ls ms : List Lk} {b : Ck → Prop} (h : ∀ k, k ∈ ls → k ∈ ms) {c : Ck} (hj : JustR cnt ls b c) : JustR cnt ms b c := by
  induction hj with
  | base h1 => exact .base h1
  | step hk hc _ ih => exact .step (h _ hk) hc ih
theorem more_mono {ms : List Lk} (h : ∀ k, k ∈ ls → k ∈ ms) (js : List Ck) {c : Ck} (hc : c ∈ moreT cnt ls js) : c ∈ moreT cnt ms js :=
  (more_iff js c).2 (just_mono h ((more_iff js c).1 hc))

/-! ### what may be final -/
def finalB (cnt : Lk → Bool) (ls : List Lk) (js : List Ck) (c : Ck) : Bool := ls.any fun k => cnt k && (decide (k.t ∈ js) && (decide (k.s = c) && decide (k.t.epoch.toNat = c.epoch.toNat + 1)))
def finalsT (cnt : Lk → Bool) (ls : List Lk) (js : List Ck) : List Ck := js.filter (finalB cnt ls js)
theorem final_iff {js : List Ck} {c : Ck} : c ∈ finalsT cnt ls (moreT cnt ls js) ↔ FinalR (fun k => cnt k = true) ls (· ∈ js) c := by
  unfold finalsT finalB FinalR
  rw [List.mem_filter, List.any_eq_true, more_iff]
  constructor
  · rintro ⟨h1, k, hk, h2⟩
    rw [Bool.and_eq_true, Bool.and_eq_true, Bool.and_eq_true, decide_eq_true_iff, decide_eq_true_iff, decide_eq_true_iff] at h2
    exact ⟨h1, k, hk, h2.1, h2.2.2.1, h2.2.2.2, (more_iff js _).1 h2.2.1⟩
  · rintro ⟨h1, k, hk, h2, h3, h4, h5⟩
    refine ⟨h1, k, hk, ?_⟩
    rw [Bool.and_eq_true, Bool.and_eq_true, Bool.and_eq_true, decide_eq_true_iff, decide_eq_true_iff, decide_eq_true_iff]
    exact ⟨h2, (more_iff js _).2 h5, h3, h4⟩

/-! ### the better one of some -/
def betC (lt : Rt → Rt → Bool) (a b : Ck) : Bool := decide (a.epoch.toNat < b.epoch.toNat) || (decide (b.epoch = a.epoch) && lt a.root b.root)
def bestC (lt : Rt → Rt → Bool) (ok : Ck → Bool) : List Ck → Ck → Ck
  | [], o => o
  | c :: cs, o => bestC lt ok cs (if (ok c && betC lt o c) = true then c else o)
theorem bestC_spec (lt : Rt → Rt → Bool) (ok : Ck → Bool) : ∀ (cs : List Ck) (o : Ck), (bestC lt ok cs o = o ∨ (bestC lt ok cs o ∈ cs ∧ ok (bestC lt ok cs o) = true)) ∧ o.epoch.toNat ≤ (bestC lt ok cs o).epoch.toNat ∧ ∀ c, c ∈ cs → ok c = true → c.epoch.toNat ≤ (bestC lt ok cs o).epoch.toNat
  | [], o => ⟨.inl rfl, Nat.le_refl _, fun c hc => (by cases hc)⟩
  | c :: cs, o => by
    rw [show bestC lt ok (c :: cs) o = bestC lt ok cs (if (ok c && betC lt o c) = true then c else o) from rfl]
    by_cases h : (ok c && betC lt o c) = true
    · rw [if_pos h]
      rw [Bool.and_eq_true] at h
      have hle : o.epoch.toNat ≤ c.epoch.toNat := by
        have := h.2
        unfold betC at this
        rw [Bool.or_eq_true, Bool.and_eq_true, decide_eq_true_iff, decide_eq_true_iff] at this
        rcases this with e | e
        · omega
        · rw [e.1]; exact Nat.le_refl _
      obtain ⟨h1, h2, h3⟩ := bestC_spec lt ok cs c
      refine ⟨.inr ?_, by omega, fun d hd hok => ?_⟩
      · rcases h1 with e | e
        · rw [e]; exact ⟨List.mem_cons_self, h.1⟩
        · exact ⟨List.mem_cons_of_mem _ e.1, e.2⟩
      · rcases List.mem_cons.1 hd with rfl | hd
        · exact h2
        · exact h3 d hd hok
    · rw [if_neg h]
      obtain ⟨h1, h2, h3⟩ := bestC_spec lt ok cs o
      refine ⟨h1.imp id fun e => ⟨List.mem_cons_of_mem _ e.1, e.2⟩, h2, fun d hd hok => ?_⟩
      rcases List.mem_cons.1 hd with rfl | hd
      · have : betC lt o d = false := by
          rw [← Bool.not_eq_true]; intro e; exact h (by rw [hok, e]; rfl)
        unfold betC at this
        rw [Bool.or_eq_false_iff, decide_eq_false_iff_not] at this
        omega
      · exact h3 d hd hok

/-! ### one chain -/
def chainT (l : List Nd) (cs : List Ck) : Bool := decide (MayT l) && decide (∀ i, i < cs.length → ∀ k, k < i → behindB l (cs.getD i zcc) (cs.getD k zcc) = true ∨ behindB l (cs.getD k zcc) (cs.getD i zcc) = true)
theorem chain_of {l : List Nd} (hm : MayT l) {cs : List Ck} (h : ∀ c d, c ∈ cs → d ∈ cs → behindB l c d = true ∨ behindB l d c = true) : chainT l cs = true := by
  unfold chainT
  rw [Bool.and_eq_true, decide_eq_true_iff, decide_eq_true_iff]
  have hin : ∀ i, i < cs.length → cs.getD i zcc ∈ cs := fun i hi => by
    rw [List.getD_eq_getElem?_getD, List.getElem?_eq_getElem hi]
    exact List.getElem_mem hi
  exact ⟨hm, fun i hi k hk => h _ _ (hin i hi) (hin k (by omega))⟩
/-- THE SEED'S: FinalSafe, whole. -/
theorem law_safe {l : List Nd} {most some_ : UInt64 → Bool} (hcommon : ∀ x y, most x = true → most y = true → some_ (x &&& y) = true) (hmono : ∀ x y, subM x y → some_ x = true → some_ y = true)
    (hm : MayT l) (hup : ∀ k, k ∈ ls → k.s.epoch.toNat < k.t.epoch.toNat) (hg : some_ (guiltT ls) = false) {b : Ck} (hb : 0 ≤ findT l b.root) :
    chainT l (b :: finalsT (fun k => behindB l k.t k.s && most k.mask) ls (moreT (fun k => behindB l k.t k.s && most k.mask) ls [b])) = true := by
  have hbb : behindB l b b = true := by
    rcases find_spec hm b.root with ⟨i, hi, e, _⟩ | ⟨e, _⟩
    · exact behind_mk hm e e hi hi (above_refl hm hi)
    · omega
  have conv : ∀ c, c ∈ finalsT (fun k => behindB l k.t k.s && most k.mask) ls (moreT (fun k => behindB l k.t k.s && most k.mask) ls [b]) → FinalR (fun k => behindB l k.t k.s = true ∧ most k.mask = true) ls (· = b) c := fun c hc => by
    have h := final_iff.1 hc
    have e1 : (fun k : Lk => (behindB l k.t k.s && most k.mask) = true) = (fun k => behindB l k.t k.s = true ∧ most k.mask = true) := by
      funext k; rw [Bool.and_eq_true]
    have e2 : (fun x : Ck => x ∈ [b]) = (fun x => x = b) := by funext x; rw [List.mem_singleton]
    rwa [e1, e2] at h
  refine chain_of hm fun c d hc hd => ?_
  refine safe_third hcommon hmono hup hg hbb c d ?_ ?_
  · exact (List.mem_cons.1 hc).imp id (conv c)
  · exact (List.mem_cons.1 hd).imp id (conv d)
end
end Go.Proofs.Ytlhnjaeocoafnaa
