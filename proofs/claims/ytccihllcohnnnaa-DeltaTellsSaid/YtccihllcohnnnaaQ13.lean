/-
  What votes weigh, plainly; what the laws of layer 14 want of it; no word of the program.
-/
import Derived.Test.YtccihllcohnnnaaQ06
import Derived.Test.YtccihllcohnnnaaQ12
namespace Go.Proofs.Ytccihllcohnnnaa
set_option maxRecDepth 100000

/-- Is vote k for node i? -/
def forB (l : List Nd) (v : Vt) (i k : Nat) : Bool := (lat v.l k).has && decide ((lat v.l k).root = (nd l i).root)
/-- Is it, and another one than there? -/
def newB (l : List Nd) (v o : Vt) (i k : Nat) : Bool := forB l v i k && decide (lat v.l k ≠ lat o.l k)
/-- The sum of the first n of those that are chosen. -/
def selF (p : Nat → Bool) (f : Nat → Nat) (n : Nat) : Nat := sumF (fun k => if p k = true then f k else 0) n
theorem selF_yes {p : Nat → Bool} {f : Nat → Nat} {n : Nat} (h : p n = true) : selF p f (n + 1) = selF p f n + f n := by
  show sumF _ n + (if p n = true then f n else 0) = _
  rw [if_pos h]; rfl
theorem selF_no {p : Nat → Bool} {f : Nat → Nat} {n : Nat} (h : p n = false) : selF p f (n + 1) = selF p f n := by
  show sumF _ n + (if p n = true then f n else 0) = _
  rw [if_neg (by rw [h]; exact Bool.false_ne_true), Nat.add_zero]; rfl
theorem selF_le (p : Nat → Bool) (f : Nat → Nat) (n : Nat) : selF p f n ≤ sumF f n := sumF_le _ fun k _ => by split <;> omega
theorem sumF_bound {f : Nat → Nat} {B : Nat} : ∀ n, (∀ k, k < n → f k ≤ B) → sumF f n ≤ n * B
  | 0, _ => by simp [sumF]
  | n + 1, h => by
    simp only [sumF]
    have h1 := sumF_bound n (fun k hk => h k (by omega))
    have h2 := h n (by omega)
    rw [Nat.add_mul, Nat.one_mul]
    omega
def ownF (l : List Nd) (v : Vt) (bal : List UInt64) (i : Nat) : Nat := selF (forB l v i) (fn bal) bal.length
def someF (l : List Nd) (v o : Vt) (bal : List UInt64) (i : Nat) : Nat := selF (newB l v o i) (fn bal) bal.length
def fitB (l : List Nd) (v : Vt) (bal : List UInt64) : Bool := decide (MayT l) && (mayV v && (mayB bal && decide (v.l.length = bal.length)))
def ownL (l : List Nd) (v : Vt) (bal : List UInt64) : List UInt64 := if fitB l v bal = true then numsT (ownF l v bal) l.length else []
def wtsL (l : List Nd) (v : Vt) (bal : List UInt64) : List UInt64 := if fitB l v bal = true then subL l (ownL l v bal) else []
def ofB (l : List Nd) (was is : Vt) (bal : List UInt64) : Bool := fitB l was bal && fitB l is bal
def plusL (l : List Nd) (was is : Vt) (bal : List UInt64) : List UInt64 := if ofB l was is bal = true then numsT (someF l is was bal) l.length else []
def minusL (l : List Nd) (was is : Vt) (bal : List UInt64) : List UInt64 := if ofB l was is bal = true then numsT (someF l was is bal) l.length else []
section
variable {l : List Nd} {v o was is : Vt} {bal : List UInt64}
theorem fit_iff : fitB l v bal = true ↔ MayT l ∧ mayV v = true ∧ mayB bal = true ∧ v.l.length = bal.length := by
  unfold fitB
  rw [Bool.and_eq_true, Bool.and_eq_true, Bool.and_eq_true, decide_eq_true_iff, decide_eq_true_iff]
theorem of_iff : ofB l was is bal = true ↔ fitB l was bal = true ∧ fitB l is bal = true := by unfold ofB; rw [Bool.and_eq_true]
theorem ownL_yes (h : fitB l v bal = true) : ownL l v bal = numsT (ownF l v bal) l.length := by unfold ownL; rw [if_pos h]
theorem ownL_no (h : fitB l v bal = false) : ownL l v bal = [] := by unfold ownL; rw [if_neg (by rw [h]; exact Bool.false_ne_true)]
theorem wtsL_yes (h : fitB l v bal = true) : wtsL l v bal = subL l (ownL l v bal) := by unfold wtsL; rw [if_pos h]
theorem wtsL_no (h : fitB l v bal = false) : wtsL l v bal = [] := by unfold wtsL; rw [if_neg (by rw [h]; exact Bool.false_ne_true)]
theorem plusL_yes (h : ofB l was is bal = true) : plusL l was is bal = numsT (someF l is was bal) l.length := by unfold plusL; rw [if_pos h]
theorem plusL_no (h : ofB l was is bal = false) : plusL l was is bal = [] := by unfold plusL; rw [if_neg (by rw [h]; exact Bool.false_ne_true)]
theorem minusL_yes (h : ofB l was is bal = true) : minusL l was is bal = numsT (someF l was is bal) l.length := by unfold minusL; rw [if_pos h]
theorem minusL_no (h : ofB l was is bal = false) : minusL l was is bal = [] := by unfold minusL; rw [if_neg (by rw [h]; exact Bool.false_ne_true)]
theorem all_bal (h : mayB bal = true) {k : Nat} (hk : k ≤ bal.length) : sumF (fn bal) k ≤ 8796093022208 := by
  obtain ⟨_, h2, h3⟩ := mayB_iff.1 h
  have := sumF_bound (f := fn bal) (B := 1099511627776) k (fun j hj => h3 j (by omega))
  omega
theorem sel_small (h : mayB bal = true) (p : Nat → Bool) {k : Nat} (hk : k ≤ bal.length) : selF p (fn bal) k ≤ 8796093022208 := Nat.le_trans (selF_le _ _ _) (all_bal h hk)
theorem own_small (h : mayB bal = true) (i : Nat) : ownF l v bal i ≤ 8796093022208 := sel_small h _ (Nat.le_refl _)
theorem some_small (h : mayB bal = true) (i : Nat) : someF l v o bal i ≤ 8796093022208 := sel_small h _ (Nat.le_refl _)
theorem own_fn (h : fitB l v bal = true) {i : Nat} (hi : i < l.length) : fn (ownL l v bal) i = ownF l v bal i := by
  rw [ownL_yes h]
  exact fn_nums hi (by have := own_small (l := l) (v := v) (fit_iff.1 h).2.2.1 i; omega)
theorem plus_fn (h : ofB l was is bal = true) {i : Nat} (hi : i < l.length) : fn (plusL l was is bal) i = someF l is was bal i := by
  rw [plusL_yes h]
  exact fn_nums hi (by have := some_small (l := l) (v := is) (o := was) (fit_iff.1 (of_iff.1 h).1).2.2.1 i; omega)
theorem minus_fn (h : ofB l was is bal = true) {i : Nat} (hi : i < l.length) : fn (minusL l was is bal) i = someF l was is bal i := by
  rw [minusL_yes h]
  exact fn_nums hi (by have := some_small (l := l) (v := was) (o := is) (fit_iff.1 (of_iff.1 h).1).2.2.1 i; omega)
theorem own_len (h : fitB l v bal = true) : (ownL l v bal).length = l.length := by rw [ownL_yes h, nums_len]
theorem plus_len (h : ofB l was is bal = true) : (plusL l was is bal).length = l.length := by rw [plusL_yes h, nums_len]
theorem minus_len (h : ofB l was is bal = true) : (minusL l was is bal).length = l.length := by rw [minusL_yes h, nums_len]
theorem wts_ok (h : fitB l v bal = true) : subOk l (ownL l v bal) = true :=
  subOk_small (fit_iff.1 h).1 (own_len h) (b := 8796093022208) (by omega) fun k hk => by rw [own_fn h hk]; exact own_small (fit_iff.1 h).2.2.1 k
theorem wts_len (h : fitB l v bal = true) : (wtsL l v bal).length = l.length := by rw [wtsL_yes h, subL_len (wts_ok h)]
theorem wts_fn (h : fitB l v bal = true) {i : Nat} (hi : i < l.length) : fn (wtsL l v bal) i = subT l (ownF l v bal) i := by
  rw [wtsL_yes h, subL_fn (wts_ok h) hi]
  exact sub_congr i fun k hk => own_fn h hk
theorem own_le20 (h : l.length ≤ 20) : (ownL l v bal).length ≤ 20 := by unfold ownL; split <;> simp [nums_len, h]
theorem wts_le20 (h : l.length ≤ 20) : (wtsL l v bal).length ≤ 20 := by
  cases hf : fitB l v bal
  · rw [wtsL_no hf]; exact Nat.zero_le _
  · rw [wts_len hf]; exact h
theorem plus_le20 (h : l.length ≤ 20) : (plusL l was is bal).length ≤ 20 := by unfold plusL; split <;> simp [nums_len, h]
theorem minus_le20 (h : l.length ≤ 20) : (minusL l was is bal).length ≤ 20 := by unfold minusL; split <;> simp [nums_len, h]
/-- What is and what went is what was and what came. -/
theorem own_some (i : Nat) : ownF l was bal i + someF l is was bal i = ownF l is bal i + someF l was is bal i := by
  unfold ownF someF selF
  rw [← sumF_add, ← sumF_add]
  refine sumF_congr _ fun k _ => ?_
  unfold newB forB
  by_cases e : lat was.l k = lat is.l k
  · rw [e]
  · have e' : lat is.l k ≠ lat was.l k := fun h => e h.symm
    rw [decide_eq_true e, decide_eq_true e', Bool.and_true, Bool.and_true]
    omega
/-! ### DeltaPass -/
theorem law_dpass (h : ofB l was is bal = true) : passOk l (wtsL l was bal) (plusL l was is bal) (minusL l was is bal) = true ∧ passL l (wtsL l was bal) (plusL l was is bal) (minusL l was is bal) = wtsL l is bal := by
  obtain ⟨h1, h2⟩ := of_iff.1 h
  obtain ⟨hm, _, hb, _⟩ := fit_iff.1 h1
  obtain ⟨_, _, k1, k2⟩ := law_pass hm (own := ownL l was bal) (p := plusL l was is bal) (m := minusL l was is bal) (is := ownL l is bal) (own_len h1) (plus_len h) (minus_len h) (own_len h2) (fun k hk => by
    rw [own_fn h1 hk, own_fn h2 hk, plus_fn h hk, minus_fn h hk]
    have e := own_some (l := l) (was := was) (is := is) (bal := bal) k
    have b1 := own_small (l := l) (v := was) hb k
    have b2 := some_small (l := l) (v := is) (o := was) hb k
    omega)
  rw [wtsL_yes h1, wtsL_yes h2]
  exact ⟨k1, k2⟩
/-! ### DeltaBack -/
theorem of_comm : ofB l was is bal = ofB l is was bal := by unfold ofB; exact Bool.and_comm _ _
theorem law_dback : plusL l was is bal = minusL l is was bal ∧ minusL l was is bal = plusL l is was bal := by
  unfold plusL minusL
  rw [of_comm (was := was)]
  exact ⟨rfl, rfl⟩
/-! ### DeltaAll -/
/-- Whose vote is for a block that is there. -/
def hereB (l : List Nd) (v : Vt) (k : Nat) : Bool := (lat v.l k).has && decide (0 ≤ findT l (lat v.l k).root)
theorem here_sum (hm : MayT l) (k : Nat) (x : Nat) : sumF (fun i => if forB l v i k = true then x else 0) l.length = if hereB l v k = true then x else 0 := by
  unfold hereB
  cases hh : (lat v.l k).has
  · rw [Bool.false_and, if_neg Bool.false_ne_true, sumF_congr (g := fun _ => 0) _ (fun i _ => by unfold forB; rw [hh, Bool.false_and, if_neg Bool.false_ne_true]), sumF_zero]
  · rcases find_spec hm (lat v.l k).root with ⟨j, hj, e, hr⟩ | ⟨e, hn⟩
    · rw [e, decide_eq_true (by omega), Bool.true_and, if_pos rfl, sumF_one _ hj (fun i hi hne => ?_)]
      · unfold forB
        rw [hh, Bool.true_and, if_pos (decide_eq_true hr.symm)]
      · unfold forB
        rw [hh, Bool.true_and, if_neg]
        intro he
        exact hne (hm.roots hi hj ((of_decide_eq_true he).symm.trans hr.symm))
    · rw [e, decide_eq_false (by omega), Bool.and_false, if_neg Bool.false_ne_true, sumF_congr (g := fun _ => 0) _ (fun i hi => ?_), sumF_zero]
      unfold forB
      rw [hh, Bool.true_and, if_neg]
      intro he
      exact hn i hi (of_decide_eq_true he).symm
theorem own_all (hm : MayT l) : sumF (ownF l v bal) l.length = selF (hereB l v) (fn bal) bal.length := by
  unfold ownF selF
  rw [sumF_swap (fun i k => if forB l v i k = true then fn bal k else 0)]
  exact sumF_congr _ fun k _ => here_sum hm k _
theorem wts_first (h : fitB l v bal = true) : fn (wtsL l v bal) 0 = selF (hereB l v) (fn bal) bal.length := by
  have hm := (fit_iff.1 h).1
  rw [wts_fn h hm.pos, sub_first hm, own_all hm]
theorem tot_sum (h : mayB bal = true) : totS bal = sumF (fn bal) bal.length := by
  unfold totS
  rw [ofS_yes h]
  unfold ofN
  refine sumF_congr _ fun k hk => ?_
  rw [if_pos (has_all (by have := (mayB_iff.1 h).2.1; omega))]
theorem wts_le (h : fitB l v bal = true) {i : Nat} (hi : i < l.length) : fn (wtsL l v bal) i ≤ fn (wtsL l v bal) 0 ∧ fn (wtsL l v bal) i ≤ totS bal := by
  obtain ⟨hm, _, hb, _⟩ := fit_iff.1 h
  have h1 : fn (wtsL l v bal) i ≤ fn (wtsL l v bal) 0 := by
    rw [wts_fn h hi, wts_fn h hm.pos, sub_first hm]
    unfold subT
    exact sumF_le _ fun k _ => by split <;> omega
  refine ⟨h1, ?_⟩
  have h2 := wts_first h
  have h3 := selF_le (hereB l v) (fn bal) bal.length
  have h4 := tot_sum hb
  omega
/-- The mask of those of the first n that are chosen. -/
def maskU (p : Nat → Bool) : Nat → UInt64
  | 0 => 0
  | n + 1 => if p n = true then maskU p n + bitU n else maskU p n
theorem maskU_has (p : Nat → Bool) : ∀ n, n ≤ 64 → ∀ k, hasB (maskU p n) k = (decide (k < n) && p k)
  | 0, _, k => by rw [decide_eq_false (by omega), Bool.false_and]; exact has_zero k
  | n + 1, hn, k => by
    have ih := maskU_has p n (by omega)
    unfold maskU
    by_cases h : p n = true
    · rw [if_pos h, has_add (by omega) (by rw [ih, decide_eq_false (by omega), Bool.false_and]), ih]
      by_cases e : n = k
      · subst e; rw [decide_eq_true rfl, Bool.or_true, decide_eq_true (by omega), h]; rfl
      · rw [decide_eq_false e, Bool.or_false]
        congr 1
        rw [Bool.eq_iff_iff, decide_eq_true_iff, decide_eq_true_iff]; omega
    · rw [if_neg h, ih]
      by_cases e : k = n
      · subst e
        have : p k = false := by simpa using h
        rw [this, Bool.and_false, Bool.and_false]
      · congr 1
        rw [Bool.eq_iff_iff, decide_eq_true_iff, decide_eq_true_iff]; omega
theorem maskU_lt (p : Nat → Bool) : ∀ n, n ≤ 63 → (maskU p n).toNat < 2 ^ n
  | 0, _ => by unfold maskU; decide
  | n + 1, hn => by
    have ih := maskU_lt p n (by omega)
    unfold maskU
    have e : (bitU n).toNat = 2 ^ n := by
      unfold bitU
      rw [UInt64.toNat_ofNat', Nat.mod_eq_of_lt (Nat.pow_lt_pow_right (by decide) (by omega))]
    have h2 : 2 ^ (n + 1) = 2 ^ n + 2 ^ n := by rw [Nat.pow_succ]; omega
    split
    · rw [UInt64.toNat_add, e]
      have := Nat.mod_le ((maskU p n).toNat + 2 ^ n) (2 ^ 64)
      omega
    · omega
theorem maskU_yes {p : Nat → Bool} {n : Nat} (hn : n < 63) (h : p n = true) : (maskU p (n + 1)).toNat = (maskU p n).toNat + 2 ^ n := by
  have ih := maskU_lt p n (by omega)
  have e : (bitU n).toNat = 2 ^ n := by
    unfold bitU
    rw [UInt64.toNat_ofNat', Nat.mod_eq_of_lt (Nat.pow_lt_pow_right (by decide) (by omega))]
  have h2 : 2 ^ n ≤ 2 ^ 62 := Nat.pow_le_pow_right (by decide) (by omega)
  show (if p n = true then maskU p n + bitU n else maskU p n).toNat = _
  rw [if_pos h, UInt64.toNat_add, e]
  exact Nat.mod_eq_of_lt (by omega)
theorem maskU_no {p : Nat → Bool} {n : Nat} (h : p n = false) : maskU p (n + 1) = maskU p n := by
  show (if p n = true then maskU p n + bitU n else maskU p n) = _
  rw [if_neg (by rw [h]; exact Bool.false_ne_true)]
theorem mask_of (h : fitB l v bal = true) : ofS bal (maskU (hereB l v) v.l.length) = fn (wtsL l v bal) 0 := by
  obtain ⟨_, _, hb, hl⟩ := fit_iff.1 h
  have h8 := (mayB_iff.1 hb).2.1
  rw [wts_first h, ofS_yes hb]
  unfold ofN selF
  refine sumF_congr _ fun k hk => ?_
  rw [maskU_has _ _ (by omega), decide_eq_true (by omega), Bool.true_and]
/-! ### DeltaBound -/
theorem some_le_own (i : Nat) : someF l v o bal i ≤ ownF l v bal i := by
  unfold someF ownF selF
  refine sumF_le _ fun k _ => ?_
  unfold newB
  cases forB l v i k
  · rw [Bool.false_and]; exact Nat.le_refl _
  · rw [Bool.true_and, if_pos rfl]; split <;> omega
theorem some_all (hm : MayT l) (hb : mayB bal = true) {n : Nat} (hn : n ≤ l.length) : sumF (someF l v o bal) n ≤ totS bal := by
  have h1 := sumF_part (someF l v o bal) hn
  have h2 := sumF_le (f := someF l v o bal) (g := ownF l v bal) l.length (fun i _ => some_le_own i)
  have h3 := own_all (v := v) (bal := bal) hm
  have h4 := selF_le (hereB l v) (fn bal) bal.length
  have h5 := tot_sum hb
  omega
theorem law_dbound (h : ofB l was is bal = true) {n : Nat} (hn : n ≤ l.length) : sumF (fn (plusL l was is bal)) n ≤ totS bal ∧ sumF (fn (minusL l was is bal)) n ≤ totS bal := by
  obtain ⟨hm, _, hb, _⟩ := fit_iff.1 (of_iff.1 h).1
  rw [sumF_congr (g := someF l is was bal) n (fun k hk => plus_fn h (by omega)), sumF_congr (f := fn (minusL l was is bal)) (g := someF l was is bal) n (fun k hk => minus_fn h (by omega))]
  exact ⟨some_all hm hb hn, some_all hm hb hn⟩
/-! ### DeltaSame -/
theorem some_self (i : Nat) : someF l v v bal i = 0 := by
  unfold someF selF
  rw [sumF_congr (g := fun _ => 0) _ (fun k _ => ?_), sumF_zero]
  unfold newB
  rw [decide_eq_false (fun h => h rfl), Bool.and_false, if_neg Bool.false_ne_true]
theorem law_dnone (h : fitB l v bal = true) : ofB l v v bal = true ∧ plusL l v v bal = List.replicate l.length 0 ∧ minusL l v v bal = List.replicate l.length 0 := by
  have ho : ofB l v v bal = true := of_iff.2 ⟨h, h⟩
  refine ⟨ho, fn_ext (by rw [plus_len ho, List.length_replicate]) fun k hk => ?_, fn_ext (by rw [minus_len ho, List.length_replicate]) fun k hk => ?_⟩
  · rw [List.length_replicate] at hk
    rw [plus_fn ho hk, fn_zeros, some_self]
  · rw [List.length_replicate] at hk
    rw [minus_fn ho hk, fn_zeros, some_self]
/-- A vote of a new epoch for the same block. -/
theorem law_dsame (h : fitB l v bal = true) {i : Nat} {ep : UInt64} (hi : i < v.l.length) (hh : (lat v.l i).has = true) (he : (lat v.l i).epoch.toNat < ep.toNat) :
    ofB l v (putV v i (lat v.l i).root ep) bal = true ∧ plusL l v (putV v i (lat v.l i).root ep) bal = minusL l v (putV v i (lat v.l i).root ep) bal ∧ (plusL l v (putV v i (lat v.l i).root ep) bal).length = l.length ∧
      (findT l (lat v.l i).root < 0 ∨ ∃ k : Nat, findT l (lat v.l i).root = k ∧ k < l.length ∧ fn (plusL l v (putV v i (lat v.l i).root ep) bal) k = fn bal i) := by
  obtain ⟨hm, hv, hb, hlen⟩ := fit_iff.1 h
  have hout : hasB v.out i = false := by
    rw [← Bool.not_eq_true]
    intro ho
    have h8 := (mayV_iff.1 hv).2.1
    have := (okAt_iff.1 ((mayV_iff.1 hv).2.2 i (by omega))).2 hi (.inl ho)
    rw [this] at hh; cases hh
  have hf : fateV v i (lat v.l i).root ep = 1 := by
    rcases fate_cases v i (lat v.l i).root ep with ⟨_, h1⟩ | ⟨h1, _⟩ | ⟨_, _, _, h1, _⟩
    · exfalso
      rcases h1 with h1 | ⟨_, h1 | ⟨h1, _⟩⟩
      · rw [hout] at h1; cases h1
      · omega
      · rw [h1] at he; omega
    · exact h1
    · rw [h1] at he; omega
  have hp := (put_step (r := (lat v.l i).root) (ep := ep) hv (z := (i : Int)) ⟨by omega, by omega⟩).1
  rw [Int.toNat_natCast] at hp
  rw [hp]
  have hmay : mayV (stepV v i (lat v.l i).root ep) = true := step_may hv hi
  have hl2 : (stepV v i (lat v.l i).root ep).l.length = bal.length := step_len.trans hlen
  have hfit : fitB l (stepV v i (lat v.l i).root ep) bal = true := fit_iff.2 ⟨hm, hmay, hb, hl2⟩
  have ho : ofB l v (stepV v i (lat v.l i).root ep) bal = true := of_iff.2 ⟨h, hfit⟩
  have hlat : ∀ k, lat (stepV v i (lat v.l i).root ep).l k = if k = i then ⟨true, (lat v.l i).root, ep⟩ else lat v.l k := fun k => by rw [fate_one hf]; exact lat_set hi
  have hne : (⟨true, (lat v.l i).root, ep⟩ : Lt) ≠ lat v.l i := fun e => by
    have := congrArg (fun x : Lt => x.epoch.toNat) e
    simp only at this
    omega
  have h1 : ∀ j, someF l (stepV v i (lat v.l i).root ep) v bal j = if (lat v.l i).root = (nd l j).root then fn bal i else 0 := fun j => by
    unfold someF selF
    rw [sumF_one _ (i := i) (by omega) (fun k _ hk => ?_)]
    · unfold newB forB
      rw [hlat, if_pos rfl, decide_eq_true hne]
      simp
    · unfold newB
      rw [hlat, if_neg hk]
      simp
  have h2 : ∀ j, someF l v (stepV v i (lat v.l i).root ep) bal j = if (lat v.l i).root = (nd l j).root then fn bal i else 0 := fun j => by
    unfold someF selF
    rw [sumF_one _ (i := i) (by omega) (fun k _ hk => ?_)]
    · unfold newB forB
      have hne' : lat v.l i ≠ (⟨true, (lat v.l i).root, ep⟩ : Lt) := fun x => hne x.symm
      rw [hlat, if_pos rfl, decide_eq_true hne', hh]
      simp
    · unfold newB
      rw [hlat, if_neg hk]
      simp
  refine ⟨ho, fn_ext (by rw [plus_len ho, minus_len ho]) fun k hk => ?_, plus_len ho, ?_⟩
  · rw [minus_len ho] at hk
    rw [plus_fn ho hk, minus_fn ho hk, h1, h2]
  · rcases find_spec hm (lat v.l i).root with ⟨k, hk, e, hr⟩ | ⟨e, _⟩
    · exact .inr ⟨k, e, hk, by rw [plus_fn ho hk, h1, if_pos hr.symm]⟩
    · exact .inl (by omega)
end
end Go.Proofs.Ytccihllcohnnnaa
