/-
  Roots as keys of a map; in any translation that has api.Root.
  Two checkpoints, as a struct, as the key of a map.
-/
import Derived.Test.YtkbifcfgcokmlaaQ06
import Derived.Maps.OwnSet
import Derived.Maps.AppendAt
import Derived.WideKeyArr2
import Derived.Test.YtkbifcfgcokmlaaQ23
import Derived.DeepKeys4
namespace Go.Proofs.Ytkbifcfgcokmlaa
open Go.RowKit Go.Maps
set_option maxRecDepth 100000

def lits8 (r : Rt) : List Lit := (List.range 32).map fun i => Lit.int .u8 (at8 r i)
def rk (r : Rt) : Lit := .string (keyBytes (lits8 r))
theorem keyed_root : Keyed Try.prog 25 := Keyed.of_law arr_root.law
theorem wf8 (r : Rt) (i : Nat) : (Lit.int .u8 (at8 r i)).wf = true := by
  have := at8_bd r i
  show (decide (IntKind.u8.min ≤ at8 r i) && decide (at8 r i ≤ IntKind.u8.max)) = true
  rw [Bool.and_eq_true, decide_eq_true_eq, decide_eq_true_eq, show IntKind.u8.min = 0 from rfl, show IntKind.u8.max = 255 from rfl]
  omega
theorem key_root (r : Rt) : keyOf Try.prog 25 (.agg (rc r)) = some (rk r) := by
  have hkt : Try.prog.keyType 25 = true := by kernel_rfl
  have hf : (Value.agg (rc r)).formed Try.prog 25 = true := by simp [Value.formed, Try.underlying25, arr_root.size, rc_size]
  obtain ⟨D, hD⟩ : ∃ D, Try.prog.types.size = D + 1 := ⟨Try.prog.types.size - 1, by have : 1 ≤ Try.prog.types.size := of_decide_eq_true (by kernel_rfl); omega⟩
  unfold keyOf
  simp only [Try.underlying25]
  rw [if_pos (by rw [hkt, hf]; rfl), hD]
  unfold Program.keyLits
  simp only [Try.underlying25, Value.cells]
  rw [if_pos (by rw [arr_root.size]; simp [rc_size]), arr_root.one]
  rw [mapM_mk _ (List.range 32) ((List.range 32).map fun i => [Lit.int .u8 (at8 r i)]) (by simp) (fun j x y hx hy => ?_)]
  · have hfl : ∀ l : List Nat, (l.map fun i => [Lit.int .u8 (at8 r i)]).flatten = l.map fun i => Lit.int .u8 (at8 r i) := fun l => by induction l with | nil => rfl | cons a t ih => simp [ih]
    simp [hfl, rk, lits8]
  · have hj : j < 32 := by simpa using (List.getElem?_eq_some_iff.1 hx).1
    have ex : x = j := by
      obtain ⟨_, e⟩ := List.getElem?_eq_some_iff.1 hx
      simpa using e.symm
    subst ex
    have ey : y = [Lit.int .u8 (at8 r x)] := by
      rw [List.getElem?_map, hx] at hy
      simpa using hy.symm
    subst ey
    have hg : ((rc r).toList.drop (x * 1)).take 1 = [.int .u8 (at8 r x)] := by
      have hl : x < (rc r).toList.length := by simp [rc_size]; exact hj
      rw [Nat.mul_one, List.drop_eq_getElem_cons hl]
      simp [rc_getElem]
    rw [hg]
    unfold Program.keyLits
    simp only [Try.underlying5]
    rw [if_pos ⟨trivial, wf8 r x⟩]
theorem rk_inj {a b : Rt} (h : rk a = rk b) : a = b := by
  have := keyed_root.inj (key_root a) (by rw [h]; exact key_root b)
  injection this with e
  exact rc_inj e
theorem rk_same (a b : Rt) : (rk a).sameKey (rk b) = decide (a = b) := by
  by_cases e : a = b
  · subst e
    rw [WideAt.sameKey_self (keyed_root.key (key_root a))]; simp
  · rw [sameKey_ne (fun h => e (rk_inj h))]; simp [e]
theorem isKey_rk (r : Rt) : WideAt.IsKeyLit (rk r) := keyed_root.key (key_root r)
/-- A map that was there lies as it lay. -/
theorem ownsMap_keep {H : Type} {P : Program} {k : TypeId} {R : Value → Option (DataW H × List MemPlace)} {b n : Nat} {D : DataW H} {W w1 : World} (g : Below W.heap.size W w1) (h : W.ownsMap P k R b n D) : w1.ownsMap P k R b n D := by
  obtain ⟨es, clock, hb, F, hn, hD⟩ := h
  exact ⟨es, clock, (g.block _ (Array.getElem?_eq_some_iff.1 hb).1).trans hb, F, hn, hD⟩
end Go.Proofs.Ytkbifcfgcokmlaa
namespace Go.Proofs.Ytkbifcfgcokmlaa
open Go.RowKit Go.Maps
set_option maxRecDepth 100000

def litsC (c : Ck) : List Lit := Lit.int .u64 (c.epoch.toNat : Int) :: lits8 c.root
def litsE (x : Ed) : List Lit := litsC x.s ++ litsC x.t
def ek (x : Ed) : Lit := .string (keyBytes (litsE x))
theorem laidE : laidOutB Try.prog = true := by kernel_rfl
theorem rowEd : (52 : TypeId) < Try.prog.types.size := of_decide_eq_true (by kernel_rfl)
theorem wideEd : (match Try.prog.underlying 52 with | some (.array _ _) | some (.struct _) => true | _ => false) = true := by kernel_rfl
theorem keyed_ed : Keyed Try.prog 52 := Keyed.of_law (deep_law_laid laidE (m := 4) (by omega) rowEd (by kernel_rfl) wideEd)
theorem kl_u8 (D : Nat) (r : Rt) (i : Nat) : Try.prog.keyLits (D + 1) 5 [.int .u8 (at8 r i)] = some [Lit.int .u8 (at8 r i)] := by
  unfold Program.keyLits
  simp only [Try.underlying5]
  rw [if_pos ⟨trivial, wf8 r i⟩]
theorem wf64 (e : UInt64) : (Lit.int .u64 (e.toNat : Int)).wf = true := by
  have := e.toNat_lt
  show (decide (IntKind.u64.min ≤ (e.toNat : Int)) && decide ((e.toNat : Int) ≤ IntKind.u64.max)) = true
  rw [Bool.and_eq_true, decide_eq_true_eq, decide_eq_true_eq, show IntKind.u64.min = 0 from rfl, show IntKind.u64.max = 18446744073709551615 from rfl]
  omega
theorem kl_u64 (D : Nat) (e : UInt64) : Try.prog.keyLits (D + 1) 23 [num e] = some [Lit.int .u64 (e.toNat : Int)] := by
  show Try.prog.keyLits (D + 1) 23 [.int .u64 (e.toNat : Int)] = _
  unfold Program.keyLits
  simp only [Try.underlying23]
  rw [if_pos ⟨trivial, wf64 e⟩]
theorem kl_root (D : Nat) (r : Rt) : Try.prog.keyLits (D + 2) 25 (rc r).toList = some (lits8 r) := by
  unfold Program.keyLits
  simp only [Try.underlying25]
  rw [if_pos (by rw [arr_root.size]; simp [rc_size]), arr_root.one]
  rw [mapM_mk _ (List.range 32) ((List.range 32).map fun i => [Lit.int .u8 (at8 r i)]) (by simp) (fun j x y hx hy => ?_)]
  · have hfl : ∀ l : List Nat, (l.map fun i => [Lit.int .u8 (at8 r i)]).flatten = l.map fun i => Lit.int .u8 (at8 r i) := fun l => by induction l with | nil => rfl | cons a t ih => simp [ih]
    simp [hfl, lits8]
  · have hj : j < 32 := by simpa using (List.getElem?_eq_some_iff.1 hx).1
    have ex : x = j := by
      obtain ⟨_, e⟩ := List.getElem?_eq_some_iff.1 hx
      simpa using e.symm
    subst ex
    have ey : y = [Lit.int .u8 (at8 r x)] := by
      rw [List.getElem?_map, hx] at hy
      simpa using hy.symm
    subst ey
    have hg : ((rc r).toList.drop (x * 1)).take 1 = [.int .u8 (at8 r x)] := by
      have hl : x < (rc r).toList.length := by simp [rc_size]; exact hj
      rw [Nat.mul_one, List.drop_eq_getElem_cons hl]
      simp [rc_getElem]
    rw [hg]
    exact kl_u8 D r x
/-- A struct's fields, one by one. -/
theorem kl_two {D : Nat} {t : TypeId} {fs : Array Field} {n1 n2 : String} {t1 t2 : TypeId} {o1 o2 c1 c2 : Nat} {cs : List Value} {a b : List Lit} (hu : Try.prog.underlying t = some (.struct fs)) (hf : fs.toList.map (fun f => (f.name, f.type, f.offset)) = [(n1, t1, o1), (n2, t2, o2)])
    (hn : n1 ≠ "_" ∧ n2 ≠ "_") (hc : Try.prog.cellsOf t = cs.length) (h1 : Try.prog.cellsOf t1 = c1) (h2 : Try.prog.cellsOf t2 = c2) (ha : Try.prog.keyLits D t1 ((cs.drop o1).take c1) = some a) (hb : Try.prog.keyLits D t2 ((cs.drop o2).take c2) = some b) :
    Try.prog.keyLits (D + 1) t cs = some (a ++ b) := by
  obtain ⟨fl⟩ := fs
  match fl, hf with
  | [f1, f2], hf =>
    simp only [List.map_cons, List.map_nil, List.cons.injEq, Prod.mk.injEq, and_true] at hf
    obtain ⟨⟨e1, e2, e3⟩, e4, e5, e6⟩ := hf
    unfold Program.keyLits
    simp only [hu]
    rw [if_pos ⟨hc.symm, by simp [e1, e4, hn.1, hn.2]⟩]
    simp [e2, e3, e5, e6, h1, h2, ha, hb]
theorem kl_ck (D : Nat) (c : Ck) : Try.prog.keyLits (D + 3) 27 (cc c).toList = some (litsC c) := by
  refine kl_two (a := [Lit.int .u64 (c.epoch.toNat : Int)]) (b := lits8 c.root) (c1 := 1) (c2 := 32) under_cc flds_cc (by decide) (by rw [cellsOf_cc, Array.length_toList, cc_size]) (by kernel_rfl) (by kernel_rfl) ?_ ?_
  · rw [show ((cc c).toList.drop 0).take 1 = [num c.epoch] from ?_]
    · exact kl_u64 (D + 1) c.epoch
    · rw [cc_list]; unfold ccL; simp
  · rw [show ((cc c).toList.drop 1).take 32 = (rc c.root).toList from ?_]
    · exact kl_root D c.root
    · rw [cc_list]; unfold ccL
      simp only [List.cons_append, List.nil_append, List.drop_succ_cons, List.drop_zero]
      exact List.take_of_length_le (by rw [Array.length_toList, rc_size]; exact Nat.le_refl _)
theorem kl_ed (D : Nat) (x : Ed) : Try.prog.keyLits (D + 4) 52 (ed x).toList = some (litsE x) := by
  refine kl_two (a := litsC x.s) (b := litsC x.t) (c1 := 33) (c2 := 33) under_ed flds_ed (by decide) (by rw [cellsOf_ed, Array.length_toList, ed_size]) cellsOf_cc cellsOf_cc ?_ ?_
  · rw [show ((ed x).toList.drop 0).take 33 = (cc x.s).toList from ?_]
    · exact kl_ck D x.s
    · rw [ed_list]; unfold edL
      rw [List.drop_zero, List.take_append_of_le_length (by simp [cc_size])]
      exact List.take_of_length_le (by rw [Array.length_toList, cc_size]; exact Nat.le_refl _)
  · rw [show ((ed x).toList.drop 33).take 33 = (cc x.t).toList from ?_]
    · exact kl_ck D x.t
    · rw [ed_list]; unfold edL
      rw [List.drop_append_of_le_length (by simp [cc_size]), List.drop_of_length_le (by rw [Array.length_toList, cc_size]; exact Nat.le_refl _), List.nil_append]
      exact List.take_of_length_le (by rw [Array.length_toList, cc_size]; exact Nat.le_refl _)
theorem key_ed (x : Ed) : keyOf Try.prog 52 (.agg (ed x)) = some (ek x) := by
  have hkt : Try.prog.keyType 52 = true := by kernel_rfl
  have hf : (Value.agg (ed x)).formed Try.prog 52 = true := by simp [Value.formed, cellsOf_ed, ed_size]
  obtain ⟨D, hD⟩ : ∃ D, Try.prog.types.size = D + 3 := ⟨Try.prog.types.size - 3, by have : 3 ≤ Try.prog.types.size := of_decide_eq_true (by kernel_rfl); omega⟩
  unfold keyOf
  simp only [under_ed]
  rw [if_pos (by rw [hkt, hf]; rfl), hD]
  show (Try.prog.keyLits (D + 4) 52 (ed x).toList).map _ = _
  rw [kl_ed]; rfl
theorem cc_inj {a b : Ck} (h : cc a = cc b) : a = b := by
  have h1 := cc_get_epoch a; have h2 := cc_get_root a
  rw [h, cc_get_epoch] at h1
  rw [h, cc_get_root] at h2
  refine Ck.ext ?_ (rc_inj h2).symm
  have : (b.epoch.toNat : Int) = (a.epoch.toNat : Int) := by
    injection h1 with h1
    injection h1
  exact UInt64.toNat_inj.1 (by omega)
theorem ed_inj {a b : Ed} (h : ed a = ed b) : a = b := by
  have h1 := ed_get_s a; have h2 := ed_get_t a
  rw [h, ed_get_s] at h1
  rw [h, ed_get_t] at h2
  exact Ed.ext (cc_inj h1).symm (cc_inj h2).symm
theorem ek_inj {a b : Ed} (h : ek a = ek b) : a = b := by
  have := keyed_ed.inj (key_ed a) (by rw [h]; exact key_ed b)
  injection this with e
  exact ed_inj e
theorem isKey_ek (x : Ed) : WideAt.IsKeyLit (ek x) := keyed_ed.key (key_ed x)
end Go.Proofs.Ytkbifcfgcokmlaa
