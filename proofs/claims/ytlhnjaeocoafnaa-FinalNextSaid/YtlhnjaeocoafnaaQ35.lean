/-
  A checkpoint, a struct, as the key of a map.
  Two checkpoints, as a struct, as the key of a map.
  Where links stand first, by their ends, plainly: what a map that is filled link by link holds.
  An append onto a row of the call's own as one step of a region that draws its order, walked in the text's order (XLex); reads below a block's number; for every program.
-/
import Derived.Test.YtlhnjaeocoafnaaQ08
import Derived.Test.YtlhnjaeocoafnaaQ29
import Derived.DeepKeys4
import Derived.Test.YtlhnjaeocoafnaaQ34
import Derived.Test.YtlhnjaeocoafnaaQ11
import Derived.Test.YtlhnjaeocoafnaaQ06
import Derived.Test.YtlhnjaeocoafnaaQ05
namespace Go.Proofs.Ytlhnjaeocoafnaa
open Go.RowKit Go.Maps
set_option maxRecDepth 100000

def litsC (c : Ck) : List Lit := Lit.int .u64 (c.epoch.toNat : Int) :: lits8 c.root
theorem laidC : laidOutB Try.prog = true := by kernel_rfl
theorem kl_u8 (D : Nat) (r : Rt) (i : Nat) : Try.prog.keyLits (D + 1) 5 [.int .u8 (at8 r i)] = some [Lit.int .u8 (at8 r i)] := by
  unfold Program.keyLits
  simp only [Try.underlying5]
  rw [if_pos ⟨trivial, wf8 r i⟩]
theorem wf64 (e : UInt64) : (Lit.int .u64 (e.toNat : Int)).wf = true := by
  have := e.toNat_lt
  show (decide (IntKind.u64.min ≤ (e.toNat : Int)) && decide ((e.toNat : Int) ≤ IntKind.u64.max)) = true
  rw [Bool.and_eq_true, decide_eq_true_eq, decide_eq_true_eq, show IntKind.u64.min = 0 from rfl, show IntKind.u64.max = 18446744073709551615 from rfl]
  omega
theorem kl_u64 (D : Nat) (e : UInt64) : Try.prog.keyLits (D + 1) 28 [num e] = some [Lit.int .u64 (e.toNat : Int)] := by
  show Try.prog.keyLits (D + 1) 28 [.int .u64 (e.toNat : Int)] = _
  unfold Program.keyLits
  simp only [Try.underlying28]
  rw [if_pos ⟨trivial, wf64 e⟩]
theorem kl_root (D : Nat) (r : Rt) : Try.prog.keyLits (D + 2) 30 (rc r).toList = some (lits8 r) := by
  unfold Program.keyLits
  simp only [Try.underlying30]
  rw [if_pos (by rw [arr_root.size]; simp [rc_size]), arr_root.one]
  rw [mapM_mk _ (List.range 32) ((List.range 32).map fun i => [Lit.int .u8 (at8 r i)]) (by simp) (fun j x y hx hy => ?_)]
  · have hfl : ∀ l : List Nat, (l.map fun i => [Lit.int .u8 (at8 r i)]).flatten = l.map fun i => Lit.int .u8 (at8 r i) := fun l => by induction l with | nil => rfl | cons a t ih => simp [ih]
    simp [hfl, lits8]
  · have hj : j < 32 := by simpa using (List.getElem?_eq_some_iff.1 hx).1
    have ex : x = j := by
      obtain ⟨_, e⟩ := List.getElem?_eq_some_iff.1 hx
      simpa using e.symm
    subst ex
    have ey : y = [Lit.int .u8 (at8 r x)] := by
      rw [List.getElem?_map, hx] at hy
      simpa using hy.symm
    subst ey
    have hg : ((rc r).toList.drop (x * 1)).take 1 = [.int .u8 (at8 r x)] := by
      have hl : x < (rc r).toList.length := by simp [rc_size]; exact hj
      rw [Nat.mul_one, List.drop_eq_getElem_cons hl]
      simp [rc_getElem]
    rw [hg]
    exact kl_u8 D r x
/-- A struct's fields, one by one. -/
theorem kl_two {D : Nat} {t : TypeId} {fs : Array Field} {n1 n2 : String} {t1 t2 : TypeId} {o1 o2 c1 c2 : Nat} {cs : List Value} {a b : List Lit} (hu : Try.prog.underlying t = some (.struct fs)) (hf : fs.toList.map (fun f => (f.name, f.type, f.offset)) = [(n1, t1, o1), (n2, t2, o2)])
    (hn : n1 ≠ "_" ∧ n2 ≠ "_") (hc : Try.prog.cellsOf t = cs.length) (h1 : Try.prog.cellsOf t1 = c1) (h2 : Try.prog.cellsOf t2 = c2) (ha : Try.prog.keyLits D t1 ((cs.drop o1).take c1) = some a) (hb : Try.prog.keyLits D t2 ((cs.drop o2).take c2) = some b) :
    Try.prog.keyLits (D + 1) t cs = some (a ++ b) := by
  obtain ⟨fl⟩ := fs
  match fl, hf with
  | [f1, f2], hf =>
    simp only [List.map_cons, List.map_nil, List.cons.injEq, Prod.mk.injEq, and_true] at hf
    obtain ⟨⟨e1, e2, e3⟩, e4, e5, e6⟩ := hf
    unfold Program.keyLits
    simp only [hu]
    rw [if_pos ⟨hc.symm, by simp [e1, e4, hn.1, hn.2]⟩]
    simp [e2, e3, e5, e6, h1, h2, ha, hb]
theorem kl_ck (D : Nat) (c : Ck) : Try.prog.keyLits (D + 3) 32 (cc c).toList = some (litsC c) := by
  refine kl_two (a := [Lit.int .u64 (c.epoch.toNat : Int)]) (b := lits8 c.root) (c1 := 1) (c2 := 32) under_cc flds_cc (by decide) (by rw [cellsOf_cc, Array.length_toList, cc_size]) (by kernel_rfl) (by kernel_rfl) ?_ ?_
  · rw [show ((cc c).toList.drop 0).take 1 = [num c.epoch] from ?_]
    · exact kl_u64 (D + 1) c.epoch
    · rw [cc_list]; unfold ccL; simp
  · rw [show ((cc c).toList.drop 1).take 32 = (rc c.root).toList from ?_]
    · exact kl_root D c.root
    · rw [cc_list]; unfold ccL
      simp only [List.cons_append, List.nil_append, List.drop_succ_cons, List.drop_zero]
      exact List.take_of_length_le (by rw [Array.length_toList, rc_size]; exact Nat.le_refl _)
def ck (c : Ck) : Lit := .string (keyBytes (litsC c))
theorem rowCk : (32 : TypeId) < Try.prog.types.size := of_decide_eq_true (by kernel_rfl)
theorem wideCk : (match Try.prog.underlying 32 with | some (.array _ _) | some (.struct _) => true | _ => false) = true := by kernel_rfl
theorem keyed_cc : Keyed Try.prog 32 := Keyed.of_law (deep_law_laid laidC (m := 3) (by omega) rowCk (by kernel_rfl) wideCk)
theorem key_cc (x : Ck) : keyOf Try.prog 32 (.agg (cc x)) = some (ck x) := by
  have hkt : Try.prog.keyType 32 = true := by kernel_rfl
  have hf : (Value.agg (cc x)).formed Try.prog 32 = true := by simp [Value.formed, cellsOf_cc, cc_size]
  obtain ⟨D, hD⟩ : ∃ D, Try.prog.types.size = D + 2 := ⟨Try.prog.types.size - 2, by have : 2 ≤ Try.prog.types.size := of_decide_eq_true (by kernel_rfl); omega⟩
  unfold keyOf
  simp only [under_cc]
  rw [if_pos (by rw [hkt, hf]; rfl), hD]
  show (Try.prog.keyLits (D + 3) 32 (cc x).toList).map _ = _
  rw [kl_ck]; rfl
theorem cc_inj {a b : Ck} (h : cc a = cc b) : a = b := by
  have h1 := cc_get_epoch a; have h2 := cc_get_root a
  rw [h, cc_get_epoch] at h1
  rw [h, cc_get_root] at h2
  refine Ck.ext ?_ (rc_inj h2).symm
  have : (b.epoch.toNat : Int) = (a.epoch.toNat : Int) := by
    injection h1 with h1
    injection h1
  exact UInt64.toNat_inj.1 (by omega)
theorem ck_inj {a b : Ck} (h : ck a = ck b) : a = b := by
  have := keyed_cc.inj (key_cc a) (by rw [h]; exact key_cc b)
  injection this with e
  exact cc_inj e
theorem isKey_ck (x : Ck) : WideAt.IsKeyLit (ck x) := keyed_cc.key (key_cc x)
end Go.Proofs.Ytlhnjaeocoafnaa
namespace Go.Proofs.Ytlhnjaeocoafnaa
open Go.RowKit Go.Maps
set_option maxRecDepth 100000

def litsE (x : Ed) : List Lit := litsC x.s ++ litsC x.t
def ek (x : Ed) : Lit := .string (keyBytes (litsE x))
theorem laidE : laidOutB Try.prog = true := by kernel_rfl
theorem rowEd : (101 : TypeId) < Try.prog.types.size := of_decide_eq_true (by kernel_rfl)
theorem wideEd : (match Try.prog.underlying 101 with | some (.array _ _) | some (.struct _) => true | _ => false) = true := by kernel_rfl
theorem keyed_ed : Keyed Try.prog 101 := Keyed.of_law (deep_law_laid laidE (m := 4) (by omega) rowEd (by kernel_rfl) wideEd)
theorem kl_ed (D : Nat) (x : Ed) : Try.prog.keyLits (D + 4) 101 (ed x).toList = some (litsE x) := by
  refine kl_two (a := litsC x.s) (b := litsC x.t) (c1 := 33) (c2 := 33) under_ed flds_ed (by decide) (by rw [cellsOf_ed, Array.length_toList, ed_size]) cellsOf_cc cellsOf_cc ?_ ?_
  · rw [show ((ed x).toList.drop 0).take 33 = (cc x.s).toList from ?_]
    · exact kl_ck D x.s
    · rw [ed_list]; unfold edL
      rw [List.drop_zero, List.take_append_of_le_length (by simp [cc_size])]
      exact List.take_of_length_le (by rw [Array.length_toList, cc_size]; exact Nat.le_refl _)
  · rw [show ((ed x).toList.drop 33).take 33 = (cc x.t).toList from ?_]
    · exact kl_ck D x.t
    · rw [ed_list]; unfold edL
      rw [List.drop_append_of_le_length (by simp [cc_size]), List.drop_of_length_le (by rw [Array.length_toList, cc_size]; exact Nat.le_refl _), List.nil_append]
      exact List.take_of_length_le (by rw [Array.length_toList, cc_size]; exact Nat.le_refl _)
theorem key_ed (x : Ed) : keyOf Try.prog 101 (.agg (ed x)) = some (ek x) := by
  have hkt : Try.prog.keyType 101 = true := by kernel_rfl
  have hf : (Value.agg (ed x)).formed Try.prog 101 = true := by simp [Value.formed, cellsOf_ed, ed_size]
  obtain ⟨D, hD⟩ : ∃ D, Try.prog.types.size = D + 3 := ⟨Try.prog.types.size - 3, by have : 3 ≤ Try.prog.types.size := of_decide_eq_true (by kernel_rfl); omega⟩
  unfold keyOf
  simp only [under_ed]
  rw [if_pos (by rw [hkt, hf]; rfl), hD]
  show (Try.prog.keyLits (D + 4) 101 (ed x).toList).map _ = _
  rw [kl_ed]; rfl
theorem ed_inj {a b : Ed} (h : ed a = ed b) : a = b := by
  have h1 := ed_get_s a; have h2 := ed_get_t a
  rw [h, ed_get_s] at h1
  rw [h, ed_get_t] at h2
  exact Ed.ext (cc_inj h1).symm (cc_inj h2).symm
theorem ek_inj {a b : Ed} (h : ek a = ek b) : a = b := by
  have := keyed_ed.inj (key_ed a) (by rw [h]; exact key_ed b)
  injection this with e
  exact ed_inj e
theorem isKey_ek (x : Ed) : WideAt.IsKeyLit (ek x) := keyed_ed.key (key_ed x)
end Go.Proofs.Ytlhnjaeocoafnaa
namespace Go.Proofs.Ytlhnjaeocoafnaa
open Go.RowKit Go.Maps
set_option maxRecDepth 100000

def edOf (k : Lk) : Ed := ⟨k.s, k.t⟩
def edAt (l : List Lk) (i : Nat) : Ed := edOf (lkAt l i)
def iLk (i : Int) : DataW Unit := .lit (.int .i64 i)
def pcD (l : List Lk) : Nat → DataW Unit
  | 0 => .map []
  | k + 1 => if Maps.has (pcD l k) (ek (edAt l k)) = true then pcD l k else (pcD l k).put (ek (edAt l k)) (iLk k)
section
variable {l : List Lk}
theorem pcD_yes {k : Nat} (h : Maps.has (pcD l k) (ek (edAt l k)) = true) : pcD l (k + 1) = pcD l k := if_pos h
theorem pcD_no {k : Nat} (h : Maps.has (pcD l k) (ek (edAt l k)) = false) : pcD l (k + 1) = (pcD l k).put (ek (edAt l k)) (iLk k) := if_neg (by rw [h]; exact Bool.false_ne_true)
theorem pcD_tidy (l : List Lk) : ∀ k, Tidy (pcD l k)
  | 0 => tidy_empty
  | k + 1 => by
    unfold pcD
    split
    · exact pcD_tidy l k
    · exact (pcD_tidy l k).put (isKey_ek _) _
theorem pcD_has (l : List Lk) (r : Ed) : ∀ k, Maps.has (pcD l k) (ek r) = true ↔ ∃ i, i < k ∧ edAt l i = r
  | 0 => ⟨fun h => (by cases h), fun ⟨_, h, _⟩ => absurd h (Nat.not_lt_zero _)⟩
  | k + 1 => by
    have ih := pcD_has l r k
    by_cases hk : Maps.has (pcD l k) (ek (edAt l k)) = true
    · rw [pcD_yes hk, ih]
      constructor
      · rintro ⟨i, hi, e⟩; exact ⟨i, by omega, e⟩
      · rintro ⟨i, hi, e⟩
        by_cases hik : i = k
        · subst hik
          rw [e] at hk
          exact ih.1 hk
        · exact ⟨i, by omega, e⟩
    · rw [pcD_no (by simpa using hk)]
      by_cases e : edAt l k = r
      · rw [e, has_put_same (pcD_tidy l k).isMap (isKey_ek r)]
        exact ⟨fun _ => ⟨k, Nat.lt_succ_self k, e⟩, fun _ => rfl⟩
      · rw [has_put_other (fun h => e (ek_inj h).symm), ih]
        constructor
        · rintro ⟨i, hi, h⟩; exact ⟨i, by omega, h⟩
        · rintro ⟨i, hi, h⟩
          rcases Nat.lt_succ_iff_lt_or_eq.1 hi with h1 | rfl
          · exact ⟨i, h1, h⟩
          · exact absurd h e
theorem pcD_at {r : Ed} {i : Nat} (z : DataW Unit) (hr : edAt l i = r) (hf : ∀ j, j < i → edAt l j ≠ r) : ∀ k, i < k → (pcD l k).atKey (ek r) z = iLk i
  | 0, h => absurd h (Nat.not_lt_zero _)
  | k + 1, h => by
    by_cases e : i = k
    · subst e
      have hn : Maps.has (pcD l i) (ek (edAt l i)) = false := by
        rw [← Bool.not_eq_true, hr, pcD_has]
        rintro ⟨j, hj, e⟩
        exact hf j hj e
      rw [pcD_no hn, hr]
      exact atKey_put_same (pcD_tidy l i).isMap (isKey_ek r) _ _
    · have ih := pcD_at z hr hf k (by omega)
      by_cases hk : Maps.has (pcD l k) (ek (edAt l k)) = true
      · rw [pcD_yes hk]; exact ih
      · rw [pcD_no (by simpa using hk), atKey_put_other, ih]
        intro h2
        have e2 := ek_inj h2
        apply hk
        rw [pcD_has]
        exact ⟨i, by omega, hr.trans e2⟩
theorem pcD_size_le (l : List Lk) : ∀ k, Maps.size (pcD l k) ≤ k
  | 0 => Nat.le_refl _
  | k + 1 => by
    have ih := pcD_size_le l k
    by_cases hk : Maps.has (pcD l k) (ek (edAt l k)) = true
    · rw [pcD_yes hk]; omega
    · rw [pcD_no (by simpa using hk), size_put (pcD_tidy l k)]
      split <;> omega
/-- As many entries as links: just if no two are one. -/
theorem pcD_size (l : List Lk) : ∀ k, Maps.size (pcD l k) = k ↔ ∀ i, i < k → ∀ j, j < i → edAt l j ≠ edAt l i
  | 0 => ⟨fun _ i h => absurd h (Nat.not_lt_zero _), fun _ => rfl⟩
  | k + 1 => by
    have ih := pcD_size l k
    have hle := pcD_size_le l k
    by_cases hh : Maps.has (pcD l k) (ek (edAt l k)) = true
    · rw [pcD_yes hh]
      obtain ⟨i, hi, e⟩ := (pcD_has l _ k).1 hh
      exact ⟨fun h => by omega, fun h => absurd e (h k (Nat.lt_succ_self k) i hi)⟩
    · rw [pcD_no (by simpa using hh), size_put (pcD_tidy l k), if_neg hh]
      constructor
      · intro h i hi j hj
        rcases Nat.lt_succ_iff_lt_or_eq.1 hi with h1 | rfl
        · exact ih.1 (by omega) i h1 j hj
        · intro e
          exact hh ((pcD_has l _ i).2 ⟨j, hj, e⟩)
      · intro h
        have := ih.2 fun i hi j hj => h i (by omega) j hj
        omega
theorem isK_ed {s t : Ck} {x : Lk} : isK s t x = true ↔ edOf x = ⟨s, t⟩ := by
  rw [isK_iff]
  exact ⟨fun h => Ed.ext h.1 h.2, fun h => ⟨congrArg Ed.s h, congrArg Ed.t h⟩⟩
def whereK (l : List Lk) (s t : Ck) : Int := if atK l s t < l.length then (atK l s t : Int) else 0
/-- What is sought. -/
theorem pcD_look (l : List Lk) (s t : Ck) : Maps.has (pcD l l.length) (ek ⟨s, t⟩) = decide (atK l s t < l.length) ∧ (pcD l l.length).atKey (ek ⟨s, t⟩) (iLk 0) = iLk (whereK l s t) := by
  by_cases h : atK l s t < l.length
  · rw [decide_eq_true h, pcD_has]
    have h1 := isK_ed.1 (at_here h)
    refine ⟨⟨_, h, h1⟩, ?_⟩
    unfold whereK
    rw [if_pos h]
    exact pcD_at _ h1 (fun j hj e => by have := at_ahead hj; rw [isK_ed.2 e] at this; cases this) _ h
  · have hn : Maps.has (pcD l l.length) (ek ⟨s, t⟩) = false := by
      rw [← Bool.not_eq_true, pcD_has]
      rintro ⟨i, hi, e⟩
      have hk := isK_ed.2 e
      have : atK l s t ≤ i := by
        rcases Nat.lt_or_ge i (atK l s t) with h2 | h2
        · rw [at_ahead h2] at hk; cases hk
        · exact h2
      omega
    refine ⟨by rw [hn, decide_eq_false h], ?_⟩
    unfold whereK
    rw [if_neg h]
    exact atKey_of_not_has hn _
theorem mayK_iff (l : List Lk) : MayK l l.length ↔ (∀ i, i < l.length → okK (lkAt l i)) ∧ Maps.size (pcD l l.length) = l.length := by
  rw [pcD_size]
  have he : ∀ i k, oneB (lkAt l i) (lkAt l k) = false ↔ edAt l k ≠ edAt l i := fun i k => by
    rw [← Bool.not_eq_true, oneB_iff]
    exact not_congr ⟨fun h => Ed.ext h.1.symm h.2.symm, fun h => ⟨(congrArg Ed.s h).symm, (congrArg Ed.t h).symm⟩⟩
  unfold MayK
  constructor
  · intro h
    exact ⟨fun i hi => (h i hi).1, fun i hi j hj => (he i j).1 ((h i hi).2 j hj)⟩
  · intro h i hi
    exact ⟨h.1 i hi, fun k hk => (he i k).2 (h.2 i hi k hk)⟩
end
end Go.Proofs.Ytlhnjaeocoafnaa
namespace Go.Proofs.Ytlhnjaeocoafnaa
open Go.RowKit
set_option maxRecDepth 100000
section
variable {P : Program} {ops : Array Oper} {E : List Nat} {L : World → World → Prop} {W : World} {Q : Exit → Act → World → Prop} {α : Type} {F : Lie α}
theorem wpXL_appendE {T : TypeId} (K : Known P F T) {k : Nat} {o : Oper} {rest : List Oper} {a : Act} {w : World} {σ : List (Nat × World)} (hE : E.contains k = true) (hgd : o.guard = none) (s x : Operand)
    (ho : o.op = .call { callee := .builtin .append, args := #[s, x], argTypes := #[T, T] })
    (base : Nat) (v : Value) (j : List α) (hs : a.eval s = v) (hown : OwnE F w base v j) (vx : Value) (l : List α) (hx : a.eval x = vx) (hsl : SlE F w vx l)
    (hlen : j.length + l.length ≤ 1000000) (hbase : base ≤ w.heap.size) (hl : ∀ v' w', Gr w v w' v' → L w w')
    (h : ∀ v' w', OwnE F w' base v' (j ++ l) → Gr w v w' v' → wpXL L P ops E W Q (k + 1) rest (a.put o.dst v') w' ((k, w') :: σ)) : wpXL L P ops E W Q k (o :: rest) a w σ := by
  obtain ⟨v', w', hr, h2, h3⟩ := run_append_E K w o.type base v j hown vx l hsl hlen hbase
  refine wpXL_eff hE (by simp [Region.wanted, hgd]) v' w' ?_ (hl v' w' h3) (h v' w' h2 h3)
  unfold execOp
  simp only [ho, resolve, invoke, builtin, Sem.run_bind, Sem.run_pure, Result.andThen_ok, List.map_toArray, List.map_cons, List.map_nil, hs, hx, hr]
end
theorem ldA_wdB' {B : Nat} {W : World} {b o n : Nat} {c : Array Value} (h : ldA W (.pointer (some ⟨b, o, none⟩)) n = some c) (hb : b < B) (p : WdB B W) : ldA p.w (.pointer (some ⟨b, o, none⟩)) n = some c := (ldA_below p.h b o n hb).trans h
theorem cell_wdB' {B : Nat} {W : World} {b o : Nat} {c : Value} (h : W.cell? ⟨b, o, none⟩ = some c) (hb : b < B) (p : WdB B W) : p.w.cell? ⟨b, o, none⟩ = some c := (p.h.cell (p := ⟨b, o, none⟩) hb).trans h
end Go.Proofs.Ytlhnjaeocoafnaa
