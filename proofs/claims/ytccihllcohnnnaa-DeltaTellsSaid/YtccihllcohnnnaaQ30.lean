/-
  The balances of some votes, node by node, one vote after the other, plainly; no word of the program.
  A row of numbers of the call's own: one put, one read; any program.
  Roots as keys of a map; in any translation that has api.Root.
  The places of a tree's nodes by their roots, plainly: what a map that is filled node by node holds.
-/
import Derived.Test.YtccihllcohnnnaaQ13
import Derived.Test.YtccihllcohnnnaaQ16
import Derived.Laws.OwnMore
import Derived.Deep.AppendLies
import Derived.Test.YtccihllcohnnnaaQ02
import Derived.Maps.OwnSet
import Derived.Maps.AppendAt
import Derived.WideKeyArr2
import Derived.Test.YtccihllcohnnnaaQ05
namespace Go.Proofs.Ytccihllcohnnnaa
set_option maxRecDepth 100000

/-- What node i has of the votes of these. -/
def accF (l : List Nd) (v : Vt) (bal : List UInt64) (ks : List Nat) (i : Nat) : Nat := (ks.map fun k => if (lat v.l k).root = (nd l i).root then fn bal k else 0).sum
section
variable {l : List Nd} {v o : Vt} {bal : List UInt64}
theorem acc_nil (i : Nat) : accF l v bal [] i = 0 := rfl
theorem acc_snoc (ks : List Nat) (k i : Nat) : accF l v bal (ks ++ [k]) i = accF l v bal ks i + (if (lat v.l k).root = (nd l i).root then fn bal k else 0) := by
  unfold accF
  rw [List.map_append, List.sum_append]
  simp
theorem acc_le {B : Nat} (h : ∀ k, fn bal k ≤ B) (ks : List Nat) (i : Nat) : accF l v bal ks i ≤ ks.length * B := by
  unfold accF
  induction ks with
  | nil => simp
  | cons k ks ih =>
    rw [List.map_cons, List.sum_cons, List.length_cons, Nat.add_mul, Nat.one_mul]
    have := h k
    split <;> omega
theorem fn_far {k : Nat} (h : bal.length ≤ k) : fn bal k = 0 := by
  unfold fn
  rw [List.getD_eq_getElem?_getD, List.getElem?_eq_none h]
  rfl
theorem bal_all (h : mayB bal = true) (k : Nat) : fn bal k ≤ 1099511627776 := by
  by_cases hk : k < bal.length
  · exact (mayB_iff.1 h).2.2 k hk
  · rw [fn_far (by omega)]; omega
/-- Those that are new, together. -/
theorem acc_new (i n : Nat) : accF l v bal ((List.range n).filter fun k => (lat v.l k).has && decide (lat v.l k ≠ lat o.l k)) i = selF (newB l v o i) (fn bal) n := by
  induction n with
  | zero => rfl
  | succ n ih =>
    rw [List.range_succ, List.filter_append]
    cases hn : ((lat v.l n).has && decide (lat v.l n ≠ lat o.l n))
    · have e : List.filter (fun k => (lat v.l k).has && decide (lat v.l k ≠ lat o.l k)) [n] = [] := by rw [List.filter_cons, if_neg (by rw [hn]; exact Bool.false_ne_true)]; rfl
      rw [e, List.append_nil, ih]
      have e2 : newB l v o i n = false := by
        unfold newB forB
        rw [Bool.and_assoc, Bool.and_comm (decide ((lat v.l n).root = (nd l i).root)), ← Bool.and_assoc, hn, Bool.false_and]
      rw [selF_no e2]
    · have e : List.filter (fun k => (lat v.l k).has && decide (lat v.l k ≠ lat o.l k)) [n] = [n] := by rw [List.filter_cons, if_pos hn]; rfl
      rw [e, acc_snoc, ih]
      have e2 : newB l v o i n = decide ((lat v.l n).root = (nd l i).root) := by
        unfold newB forB
        rw [Bool.and_assoc, Bool.and_comm (decide ((lat v.l n).root = (nd l i).root)), ← Bool.and_assoc, hn, Bool.true_and]
      by_cases hr : (lat v.l n).root = (nd l i).root
      · rw [if_pos hr, selF_yes (by rw [e2]; exact decide_eq_true hr)]
      · rw [if_neg hr, selF_no (by rw [e2]; exact decide_eq_false hr), Nat.add_zero]
theorem nums_congr {f g : Nat → Nat} : ∀ {n : Nat}, (∀ i, i < n → f i = g i) → numsT f n = numsT g n
  | 0, _ => rfl
  | n + 1, h => by rw [nums_succ, nums_succ, nums_congr (fun i hi => h i (by omega)), h n (by omega)]
theorem nums_set {f g : Nat → Nat} {n a : Nat} (h : ∀ i, i < n → i ≠ a → g i = f i) : (numsT f n).set a (UInt64.ofNat (g a)) = numsT g n := by
  refine List.ext_getElem? fun i => ?_
  by_cases hi : i < n
  · have e1 : (numsT f n)[i]? = some (UInt64.ofNat (f i)) := by unfold numsT; simp [hi]
    have e2 : (numsT g n)[i]? = some (UInt64.ofNat (g i)) := by unfold numsT; simp [hi]
    rw [e2, List.getElem?_set]
    by_cases ha : a = i
    · subst ha
      rw [if_pos rfl, if_pos (by rw [nums_len]; exact hi)]
    · rw [if_neg ha, e1, h i hi (fun e => ha e.symm)]
  · rw [List.getElem?_eq_none (by rw [List.length_set, nums_len]; omega), List.getElem?_eq_none (by rw [nums_len]; omega)]
/-- One vote more, where its root is found, or not. -/
theorem acc_found (hm : MayT l) {k a : Nat} (ha : findT l (lat v.l k).root = (a : Int)) (ks : List Nat) : a < l.length ∧ (numsT (accF l v bal ks) l.length).set a (UInt64.ofNat (accF l v bal ks a + fn bal k)) = numsT (accF l v bal (ks ++ [k])) l.length := by
  rcases find_spec hm (lat v.l k).root with ⟨i, hi, he, hr⟩ | ⟨he, _⟩
  · rw [ha] at he
    have e : a = i := by omega
    subst e
    refine ⟨hi, ?_⟩
    have h1 : accF l v bal (ks ++ [k]) a = accF l v bal ks a + fn bal k := by rw [acc_snoc, if_pos hr.symm]
    rw [← h1]
    refine nums_set fun j hj hne => ?_
    rw [acc_snoc, if_neg, Nat.add_zero]
    intro e2
    have h3 := find_at hm hj
    rw [← e2, ha] at h3
    omega
  · rw [ha] at he; omega
theorem acc_lost (hm : MayT l) {k : Nat} (ha : findT l (lat v.l k).root < 0) (ks : List Nat) : numsT (accF l v bal ks) l.length = numsT (accF l v bal (ks ++ [k])) l.length := by
  rcases find_spec hm (lat v.l k).root with ⟨i, hi, he, hr⟩ | ⟨_, hn⟩
  · omega
  · refine nums_congr fun i hi => ?_
    rw [acc_snoc, if_neg (fun e => hn i hi e.symm), Nat.add_zero]
theorem acc_zero (n : Nat) : numsT (accF l v bal []) n = List.replicate n 0 := by
  refine List.ext_getElem? fun i => ?_
  by_cases hi : i < n
  · have e1 : (numsT (accF l v bal []) n)[i]? = some (UInt64.ofNat 0) := by unfold numsT; simp [hi, acc_nil]
    rw [e1]; simp [hi]
  · rw [List.getElem?_eq_none (by rw [nums_len]; omega), List.getElem?_eq_none (by simp; omega)]
end
end Go.Proofs.Ytccihllcohnnnaa
namespace Go.Proofs.Ytccihllcohnnnaa
open Go.RowKit
set_option maxRecDepth 100000
theorem set_nums (b : List UInt64) (x : UInt64) (h : Nat) : cellsE Enum (b.set h x) = (cellsE Enum b).set h (num x) := by
  induction b generalizing h with
  | nil => rfl
  | cons y b ih => cases h with
    | zero => rfl
    | succ h => show num y :: cellsE Enum (b.set h x) = _; rw [ih]; rfl
theorem ownN_put {w : World} {base g n cap : Nat} {b : List UInt64} (h : OwnE Enum w base (.slice (some ⟨g, 0, none⟩) n cap) b) (hn : b.length = n) (k : Nat) {x : Nat} (hx : x < 18446744073709551616) : OwnE Enum (w.setCell ⟨g, k, none⟩ (.int .u64 (x : Int))) base (.slice (some ⟨g, 0, none⟩) n cap) (b.set k (UInt64.ofNat x)) := by
  subst hn
  unfold OwnE at h ⊢
  rw [set_nums, List.length_set, num_nat hx]
  exact (World.ownsRow.stored h k (.int .u64 (x : Int))).1
theorem ownN_frozen {w : World} {base g n cap : Nat} {b : List UInt64} (h : OwnE Enum w base (.slice (some ⟨g, 0, none⟩) n cap) b) (hn : b.length = n) (k : Nat) : w.frozen? ⟨g, k, none⟩ = false := by
  subst hn; exact World.ownsRow.frozenAt h k
theorem ownN_cell {w : World} {base g n cap : Nat} {b : List UInt64} (h : OwnE Enum w base (.slice (some ⟨g, 0, none⟩) n cap) b) {k : Nat} (hk : k < b.length) : w.cell? ⟨g, k, none⟩ = some (.int .u64 (fn b k : Int)) := by
  obtain ⟨b1, o1, e, _, x⟩ := nums_ptr (ownE_slE h) (by omega)
  injection e with e
  injection e with e1 e2
  subst e1 e2
  have := nums_cell x hk
  rwa [Nat.zero_add] at this
theorem ownN_form {w : World} {base : Nat} {v : Value} {b : List UInt64} {n : Nat} (h : OwnE Enum w base v b) (hn : b.length = n) (h0 : 0 < n) : ∃ g cap, v = .slice (some ⟨g, 0, none⟩) n cap ∧ base ≤ g := by
  subst hn
  rcases h.2 with ⟨_, e⟩ | ⟨g, cap, cur, e, hb, _⟩
  · omega
  · exact ⟨g, cap, e, hb⟩
end Go.Proofs.Ytccihllcohnnnaa
namespace Go.Proofs.Ytccihllcohnnnaa
open Go.RowKit Go.Maps
set_option maxRecDepth 100000

def lits8 (r : Rt) : List Lit := (List.range 32).map fun i => Lit.int .u8 (at8 r i)
def rk (r : Rt) : Lit := .string (keyBytes (lits8 r))
theorem keyed_root : Keyed Try.prog 39 := Keyed.of_law arr_root.law
theorem wf8 (r : Rt) (i : Nat) : (Lit.int .u8 (at8 r i)).wf = true := by
  have := at8_bd r i
  show (decide (IntKind.u8.min ≤ at8 r i) && decide (at8 r i ≤ IntKind.u8.max)) = true
  rw [Bool.and_eq_true, decide_eq_true_eq, decide_eq_true_eq, show IntKind.u8.min = 0 from rfl, show IntKind.u8.max = 255 from rfl]
  omega
theorem key_root (r : Rt) : keyOf Try.prog 39 (.agg (rc r)) = some (rk r) := by
  have hkt : Try.prog.keyType 39 = true := by kernel_rfl
  have hf : (Value.agg (rc r)).formed Try.prog 39 = true := by simp [Value.formed, Try.underlying39, arr_root.size, rc_size]
  obtain ⟨D, hD⟩ : ∃ D, Try.prog.types.size = D + 1 := ⟨Try.prog.types.size - 1, by have : 1 ≤ Try.prog.types.size := of_decide_eq_true (by kernel_rfl); omega⟩
  unfold keyOf
  simp only [Try.underlying39]
  rw [if_pos (by rw [hkt, hf]; rfl), hD]
  unfold Program.keyLits
  simp only [Try.underlying39, Value.cells]
  rw [if_pos (by rw [arr_root.size]; simp [rc_size]), arr_root.one]
  rw [mapM_mk _ (List.range 32) ((List.range 32).map fun i => [Lit.int .u8 (at8 r i)]) (by simp) (fun j x y hx hy => ?_)]
  · have hfl : ∀ l : List Nat, (l.map fun i => [Lit.int .u8 (at8 r i)]).flatten = l.map fun i => Lit.int .u8 (at8 r i) := fun l => by induction l with | nil => rfl | cons a t ih => simp [ih]
    simp [hfl, rk, lits8]
  · have hj : j < 32 := by simpa using (List.getElem?_eq_some_iff.1 hx).1
    have ex : x = j := by
      obtain ⟨_, e⟩ := List.getElem?_eq_some_iff.1 hx
      simpa using e.symm
    subst ex
    have ey : y = [Lit.int .u8 (at8 r x)] := by
      rw [List.getElem?_map, hx] at hy
      simpa using hy.symm
    subst ey
    have hg : ((rc r).toList.drop (x * 1)).take 1 = [.int .u8 (at8 r x)] := by
      have hl : x < (rc r).toList.length := by simp [rc_size]; exact hj
      rw [Nat.mul_one, List.drop_eq_getElem_cons hl]
      simp [rc_getElem]
    rw [hg]
    unfold Program.keyLits
    simp only [Try.underlying5]
    rw [if_pos ⟨trivial, wf8 r x⟩]
theorem rk_inj {a b : Rt} (h : rk a = rk b) : a = b := by
  have := keyed_root.inj (key_root a) (by rw [h]; exact key_root b)
  injection this with e
  exact rc_inj e
theorem rk_same (a b : Rt) : (rk a).sameKey (rk b) = decide (a = b) := by
  by_cases e : a = b
  · subst e
    rw [WideAt.sameKey_self (keyed_root.key (key_root a))]; simp
  · rw [sameKey_ne (fun h => e (rk_inj h))]; simp [e]
theorem isKey_rk (r : Rt) : WideAt.IsKeyLit (rk r) := keyed_root.key (key_root r)
/-- A map that was there lies as it lay. -/
theorem ownsMap_keep {H : Type} {P : Program} {k : TypeId} {R : Value → Option (DataW H × List MemPlace)} {b n : Nat} {D : DataW H} {W w1 : World} (g : Below W.heap.size W w1) (h : W.ownsMap P k R b n D) : w1.ownsMap P k R b n D := by
  obtain ⟨es, clock, hb, F, hn, hD⟩ := h
  exact ⟨es, clock, (g.block _ (Array.getElem?_eq_some_iff.1 hb).1).trans hb, F, hn, hD⟩
end Go.Proofs.Ytccihllcohnnnaa
namespace Go.Proofs.Ytccihllcohnnnaa
open Go.RowKit Go.Maps
set_option maxRecDepth 100000

def iL (i : Nat) : DataW Unit := .lit (.int .i64 (i : Int))
def plD (l : List Nd) : Nat → DataW Unit
  | 0 => .map []
  | k + 1 => (plD l k).put (rk (nd l k).root) (iL k)
section
variable {l : List Nd}
theorem plD_tidy (l : List Nd) : ∀ k, Tidy (plD l k)
  | 0 => tidy_empty
  | k + 1 => (plD_tidy l k).put (isKey_rk _) _
theorem plD_has (l : List Nd) (r : Rt) : ∀ k, Maps.has (plD l k) (rk r) = true ↔ ∃ i, i < k ∧ (nd l i).root = r
  | 0 => ⟨fun h => (by cases h), fun ⟨_, h, _⟩ => absurd h (Nat.not_lt_zero _)⟩
  | k + 1 => by
    unfold plD
    by_cases e : (nd l k).root = r
    · rw [e, has_put_same (plD_tidy l k).isMap (isKey_rk r)]
      exact ⟨fun _ => ⟨k, Nat.lt_succ_self k, e⟩, fun _ => rfl⟩
    · rw [has_put_other (fun h => e (rk_inj h).symm), plD_has l r k]
      constructor
      · rintro ⟨i, hi, h⟩; exact ⟨i, by omega, h⟩
      · rintro ⟨i, hi, h⟩
        rcases Nat.lt_succ_iff_lt_or_eq.1 hi with h1 | rfl
        · exact ⟨i, h1, h⟩
        · exact absurd h e
theorem plD_none {r : Rt} {k : Nat} (h : ∀ i, i < k → (nd l i).root ≠ r) : Maps.has (plD l k) (rk r) = false := by
  rw [← Bool.not_eq_true, plD_has]
  rintro ⟨i, hi, e⟩
  exact h i hi e
theorem plD_at {r : Rt} {i : Nat} (z : DataW Unit) (hr : (nd l i).root = r) : ∀ k, i < k → (∀ j, i < j → j < k → (nd l j).root ≠ r) → (plD l k).atKey (rk r) z = iL i
  | 0, h, _ => absurd h (Nat.not_lt_zero _)
  | k + 1, h, hj => by
    unfold plD
    by_cases e : i = k
    · subst e
      rw [hr]
      exact atKey_put_same (plD_tidy l i).isMap (isKey_rk r) _ _
    · rw [atKey_put_other (fun h2 => hj k (by omega) (Nat.lt_succ_self k) (rk_inj h2).symm)]
      exact plD_at z hr k (by omega) fun j h1 h2 => hj j h1 (by omega)
theorem plD_size_le (l : List Nd) : ∀ k, Maps.size (plD l k) ≤ k
  | 0 => Nat.le_refl _
  | k + 1 => by
    have ih := plD_size_le l k
    unfold plD
    rw [size_put (plD_tidy l k)]
    split <;> omega
/-- As many entries as nodes: just if no two are of one root. -/
theorem plD_size (l : List Nd) : ∀ k, Maps.size (plD l k) = k ↔ ∀ i, i < k → ∀ j, j < i → (nd l j).root ≠ (nd l i).root
  | 0 => ⟨fun _ i h => absurd h (Nat.not_lt_zero _), fun _ => rfl⟩
  | k + 1 => by
    have ih := plD_size l k
    have hle := plD_size_le l k
    unfold plD
    rw [size_put (plD_tidy l k)]
    by_cases hh : Maps.has (plD l k) (rk (nd l k).root) = true
    · rw [if_pos hh]
      obtain ⟨i, hi, e⟩ := (plD_has l _ k).1 hh
      exact ⟨fun h => by omega, fun h => absurd e (h k (Nat.lt_succ_self k) i hi)⟩
    · rw [if_neg hh]
      constructor
      · intro h i hi j hj
        rcases Nat.lt_succ_iff_lt_or_eq.1 hi with h1 | rfl
        · exact ih.1 (by omega) i h1 j hj
        · intro e
          exact hh ((plD_has l _ i).2 ⟨j, hj, e⟩)
      · intro h
        have := ih.2 fun i hi j hj => h i (by omega) j hj
        omega
/-- What is sought in a tree that may be. -/
theorem plD_find (h : MayT l) (r : Rt) : Maps.has (plD l l.length) (rk r) = decide (0 ≤ findT l r) ∧ (0 ≤ findT l r → (plD l l.length).atKey (rk r) (iL 0) = .lit (.int .i64 (findT l r))) := by
  rcases find_spec h r with ⟨i, hi, e, hr⟩ | ⟨e, hn⟩
  · rw [e]
    refine ⟨?_, fun _ => plD_at _ hr _ hi fun j h1 h2 e2 => ?_⟩
    · rw [(plD_has l r _).2 ⟨i, hi, hr⟩]
      exact (decide_eq_true (by omega)).symm
    · have := h.roots hi h2 (hr.trans e2.symm)
      omega
  · rw [e]
    exact ⟨by rw [plD_none hn]; rfl, fun h => by omega⟩
end
end Go.Proofs.Ytccihllcohnnnaa
