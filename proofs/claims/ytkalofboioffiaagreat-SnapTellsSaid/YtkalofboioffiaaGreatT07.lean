import Derived.Test.YtkalofboioffiaaGreatT06
namespace Go.Proofs.YtkalofboioffiaaGreat
open Go.RowKit
set_option maxRecDepth 200000
set_option maxHeartbeats 64000000
section
open Go.RowKit
def Eboo : Lie Bool := ⟨4, 1, fun b => [.bool b], by decide, fun _ => rfl, fun _ u h => by rw [List.mem_singleton.1 h]; rfl⟩
theorem zyr : (Tryz.prog.info? 4).map (fun i => (i.zero, i.size, i.bytes)) = some (some (.bool false), 1, 1) := by kernel_rfl
theorem Kboo : Known Tryz.prog Eboo 79 := ⟨Tryz.underlying79, .bool false, 1, zyr, rfl, by decide⟩
section
open Go.WideShapes Go.ChangeShapes
variable {H : Type} {enc : TypeId × Value → H} {w : World} {base : Nat} {sp : Nat → Bool} {held : Bool}
end
def bn (b : List Bool) (k : Nat) : Bool := b.getD k false
theorem yh6 {b : List Bool} {k : Nat} (h : k < b.length) : bn b k = b[k] := by unfold bn; simp [h]
theorem zmh {w : World} {b off : Nat} {a : List Bool} (h : w.rangeAt b off (zaq Eboo a)) {i : Nat} (hi : i < a.length) : w.cell? ⟨b, off + i, none⟩ = some (.bool (bn a i)) := by
 have := zqr h hi (j := 0) (v := .bool a[i]) rfl
 rw [yh6 hi]
 simpa [Eboo] using this
theorem zyb {w : World} {p : Option Addr} {n cp : Nat} {a : List Bool} (h : SlE Eboo w (.slice p n cp) a) (h0 : 0 < a.length) : ∃ b o, p = some ⟨b, o, none⟩ ∧ b < w.heap.size ∧ w.rangeAt b o (zaq Eboo a) := by
 obtain ⟨b, o, c, e, _, q, x⟩ := zcz h h0
 injection e with e1 e2 e3
 exact ⟨b, o, e1, q, x⟩
def BoosIs (L : List Bool) (w : World) (e : Ending) (w' : World) : Prop := ∃ v, e = .returned v ∧ OwnE Eboo w' w.heap.size v L ∧ Below w.heap.size w w'
end
theorem ltS : Strict zbh := ⟨zih.1, zih.2.1, zih.2.2⟩
def yeh (l : List Nd) (w : List UInt64) (b : List Bool) : Prop := MayT l ∧ w.length = l.length ∧ b.length = l.length
instance (l : List Nd) (w : List UInt64) (b : List Bool) : Decidable (yeh l w b) := by unfold yeh; exact inferInstance
def zdm (l : List Nd) (w : List UInt64) (b : List Bool) : Bool := decide (yeh l w b)
def optZ : Option Nat → Int
 | none => -1
 | some k => (k : Int)
theorem zg3 : optZ none = -1 := rfl
theorem zet (k : Nat) : optZ (some k) = (k : Int) := rfl
def zeq (l : List Nd) (w : List UInt64) (b : List Bool) (i : Nat) : Option Nat := zgr l zbh (fn w) (bn b) i
def wayN (l : List Nd) (w : List UInt64) (b : List Bool) (i : Nat) : List Nat := wayT l zbh (fn w) (bn b) i
def zov (l : List Nd) (w : List UInt64) (b : List Bool) (i : Nat) : Nat := zi1 l zbh (fn w) (bn b) i
def zd0 (l : List Nd) (w : List UInt64) (b : List Bool) (i : Int) : Bool := zdm l w b && (decide (0 ≤ i) && decide (i < l.length))
def kidZ (l : List Nd) (w : List UInt64) (b : List Bool) (i : Int) : Int := if zd0 l w b i = true then optZ (zeq l w b i.toNat) else -1
def wayZ (l : List Nd) (w : List UInt64) (b : List Bool) (i : Int) : List Int := if zd0 l w b i = true then (wayN l w b i.toNat).map (fun k : Nat => (k : Int)) else []
def zib (l : List Nd) (w : List UInt64) (b : List Bool) (i : Int) : Int := if zd0 l w b i = true then (zov l w b i.toNat : Int) else -1
section
variable {l : List Nd} {w : List UInt64} {b : List Bool}
theorem zdk : zdm l w b = true ↔ MayT l ∧ w.length = l.length ∧ b.length = l.length := by
 unfold zdm
 rw [decide_eq_true_iff]
 exact Iff.rfl
theorem zeu {i : Int} : zd0 l w b i = true ↔ zdm l w b = true ∧ 0 ≤ i ∧ i < l.length := by
 unfold zd0
 rw [Bool.and_eq_true, Bool.and_eq_true, decide_eq_true_iff, decide_eq_true_iff]
theorem zjk (h : zdm l w b = true) {i : Nat} (hi : i < l.length) : zd0 l w b (i : Int) = true := zeu.2 ⟨h, by omega, by omega⟩
theorem zyu (h : zdm l w b = true) {i : Nat} (hi : i < l.length) : kidZ l w b (i : Int) = optZ (zeq l w b i) := by
 unfold kidZ
 rw [if_pos (zjk h hi), Int.toNat_natCast]
theorem zz5 (h : zdm l w b = true) {i : Nat} (hi : i < l.length) : wayZ l w b (i : Int) = (wayN l w b i).map (fun k : Nat => (k : Int)) := by
 unfold wayZ
 rw [if_pos (zjk h hi), Int.toNat_natCast]
theorem ztf (h : zdm l w b = true) {i : Nat} (hi : i < l.length) : zib l w b (i : Int) = zov l w b i := by
 unfold zib
 rw [if_pos (zjk h hi), Int.toNat_natCast]
theorem zyv {i : Int} (h : zd0 l w b i = false) : kidZ l w b i = -1 := by unfold kidZ; rw [if_neg (by rw [h]; exact Bool.false_ne_true)]
theorem zsp {i : Int} (h : zd0 l w b i = false) : wayZ l w b i = [] := by unfold wayZ; rw [if_neg (by rw [h]; exact Bool.false_ne_true)]
theorem z5i {i : Int} (h : zd0 l w b i = false) : zib l w b i = -1 := by unfold zib; rw [if_neg (by rw [h]; exact Bool.false_ne_true)]
theorem z33 (h : zdm l w b = true) {i : Nat} (hi : l.length ≤ i) : zeq l w b i = none := by
 refine z9k ltS fun k hk hp => ?_
 have hm := (zdk.1 h).1
 by_cases h0 : k = 0
 ·
  subst h0; rw [hm.first] at hp; omega
 ·
  obtain ⟨e, hu, _⟩ := hm.par (Nat.pos_of_ne_zero h0) hk
  rw [e] at hp
  omega
theorem yfx (h : zdm l w b = true) (i : Nat) : kidZ l w b (i : Int) = optZ (zeq l w b i) := by
 by_cases hi : i < l.length
 ·
  exact zyu h hi
 ·
  rw [z33 h (by omega), zg3]
  refine zyv ?_
  rw [← Bool.not_eq_true, zeu]
  rintro ⟨_, _, h2⟩
  omega
def zb5 (l : List Nd) (w : List UInt64) (b : List Bool) (i n : Nat) : Option Nat := zvm l zbh (fn w) (bn b) i n
theorem zo9 (i : Nat) : zb5 l w b i l.length = zeq l w b i := rfl
theorem zhg {i n : Nat} (h : zdb l (bn b) i n = false) : zb5 l w b i (n + 1) = zb5 l w b i n := by
 show (match zb5 l w b i n with | none => if zdb l (bn b) i n = true then some n else none | some m => if (zdb l (bn b) i n && zbs l zbh (fn w) n m) = true then some n else some m) = _
 rw [h]
 cases zb5 l w b i n <;> rfl
theorem zkt {i n : Nat} (h : zdb l (bn b) i n = true) (e : zb5 l w b i n = none) : zb5 l w b i (n + 1) = some n := by
 show (match zb5 l w b i n with | none => if zdb l (bn b) i n = true then some n else none | some m => if (zdb l (bn b) i n && zbs l zbh (fn w) n m) = true then some n else some m) = _
 rw [h, e]
 rfl
theorem zme {i n m : Nat} (h : zdb l (bn b) i n = true) (e : zb5 l w b i n = some m) : zb5 l w b i (n + 1) = if zbs l zbh (fn w) n m = true then some n else some m := by
 show (match zb5 l w b i n with | none => if zdb l (bn b) i n = true then some n else none | some m => if (zdb l (bn b) i n && zbs l zbh (fn w) n m) = true then some n else some m) = _
 rw [h, e]
 show (if (true && zbs l zbh (fn w) n m) = true then some n else some m) = _
 rw [Bool.true_and]
theorem z31 {i n m : Nat} (e : zb5 l w b i n = some m) : m < n := by
 rcases zmf (l := l) (lt := zbh) (w := fn w) (leads := bn b) ltS i n with ⟨e1, _⟩ | ⟨c, e1, hc, _⟩
 ·
  have e2 : zb5 l w b i n = none := e1
  rw [e2] at e; cases e
 ·
  have e2 : zb5 l w b i n = some c := e1
  rw [e2] at e
  obtain rfl := Option.some.inj e
  exact hc
theorem z32 {i k : Nat} (e : zeq l w b i = some k) : k < l.length := (zio ltS e).1
theorem zwd (h : MayT l) {i : Nat} (hi : i < l.length) : zov l w b i < l.length ∧ zat l i (zov l w b i) = true ∧ zeq l w b (zov l w b i) = none ∧ 0 < (wayN l w b i).length ∧ (wayN l w b i).length ≤ l.length ∧ (wayN l w b i).getD 0 0 = i ∧ (wayN l w b i).getD ((wayN l w b i).length - 1) 0 = zov l w b i ∧
  (∀ j, j < (wayN l w b i).length → (wayN l w b i).getD j 0 < l.length ∧ zov l w b ((wayN l w b i).getD j 0) = zov l w b i) ∧ ∀ j, j + 1 < (wayN l w b i).length → zeq l w b ((wayN l w b i).getD j 0) = some ((wayN l w b i).getD (j + 1) 0) := by
 obtain ⟨a1, a2, a3, _⟩ := yaz (w := fn w) (leads := bn b) ltS h _ i rfl hi
 obtain ⟨b1, b2, b3⟩ := z8o (w := fn w) (leads := bn b) ltS h _ i rfl hi
 obtain ⟨r, hr⟩ := zju (l := l) (lt := zbh) (w := fn w) (leads := bn b) i
 have hr' : wayN l w b i = i :: r := hr
 have hb3 : (wayN l w b i).length + i ≤ l.length ∨ (wayN l w b i).length ≤ l.length := by
  first | exact .inr (by have := b3; unfold wayN; omega)
 refine ⟨a1, a2, a3, by rw [hr']; simp, by omega, by rw [hr']; rfl, ?_, fun j hj => ⟨(b1 j hj).1, (b1 j hj).2.1⟩, b2⟩
 show _ = (wayN l w b i).getLastD i
 rw [hr']
 cases r with
 | nil => rfl
 | cons x r => simp [List.getLastD, List.getLast_eq_getElem, List.getD_eq_getElem?_getD]
end
def zfm (l : List Nd) (just : Nat) (fin k : Int) : Bool := zbp l fin k && (decide (z09 l k = []) && decide (just ≤ (nd l k.toNat).just.toNat))
def anyB (p : Nat → Bool) : Nat → Bool
 | 0 => false
 | n + 1 => anyB p n || p n
theorem zx9 (p : Nat → Bool) : ∀ n, anyB p n = true ↔ ∃ k, k < n ∧ p k = true
 | 0 => ⟨fun h => (by cases h), fun ⟨k, hk, _⟩ => (by omega)⟩
 | n + 1 => by
  rw [show anyB p (n + 1) = (anyB p n || p n) from rfl, Bool.or_eq_true, zx9 p n]
  constructor
  ·
   rintro (⟨k, hk, h⟩ | h)
   ·
    exact ⟨k, by omega, h⟩
   ·
    exact ⟨n, by omega, h⟩
  ·
   rintro ⟨k, hk, h⟩
   by_cases e : k = n
   ·
    subst e; exact .inr h
   ·
    exact .inl ⟨k, by omega, h⟩
def zkf (l : List Nd) (just : Nat) (fin : Int) (i : Nat) : Bool := anyB (fun k => zat l i k && zfm l just fin (k : Int)) l.length
def zp1 (l : List Nd) (just : Nat) (fin : Int) : List Bool := if MayT l then (List.range l.length).map (zkf l just fin) else []
def zm5 (l : List Nd) (r : Rt) (fin : Int) : Int := if isT l fin = true then (if zbp l fin (zaz l r) = true then zaz l r else fin) else -1
section
variable {l : List Nd}
theorem ya1 {just : Nat} {fin : Int} {i : Nat} : zkf l just fin i = true ↔ ∃ k, k < l.length ∧ zat l i k = true ∧ zfm l just fin (k : Int) = true := by
 unfold zkf
 rw [zx9]
 simp only [Bool.and_eq_true]
theorem z3p {i k : Int} (e : zbp l i k = true) : MayT l ∧ 0 ≤ i ∧ i < l.length ∧ 0 ≤ k ∧ k < l.length ∧ zat l i.toNat k.toNat = true := by
 unfold zbp at e
 rw [Bool.and_eq_true, Bool.and_eq_true, zb2, zb2] at e
 exact ⟨e.1.1.1, e.1.1.2.1, e.1.1.2.2, e.1.2.2.1, e.1.2.2.2, e.2⟩
end
section
open Go.RowKit
theorem yau : (Tryz.prog.info? 3).map (fun i => (i.zero, i.size, i.bytes)) = some (some (.int .i64 0), 1, 8) := by kernel_rfl
theorem Kint : Known Tryz.prog Eint 60 := ⟨Tryz.underlying60, .int .i64 0, 8, yau, rfl, by decide⟩
section
open Go.WideShapes Go.ChangeShapes
variable {H : Type} {enc : TypeId × Value → H} {w : World} {base : Nat} {sp : Nat → Bool} {held : Bool}
end
end
open Go.RowKit
section
variable {P : Program}
theorem zc9 {T : TypeId} {n : Nat} (hA : ∀ w, (isAgg T).run P w = .ok true w) (hS : ∀ w, (Go.sizeOf T).run P w = .ok n w) (fn : Func) (d e : Nat) (h : fn.results = #[.cell d T, .tmp e]) (tmps : Array Value) (w : World) (b : Nat) (c : Array Value) (v : Value) (hp : tmps.getD d undef = .pointer (some ⟨b, 0, none⟩)) (hv : tmps.getD e undef = v) (hl : ldA w (.pointer (some ⟨b, 0, none⟩)) n = some c) :
  (results fn tmps).run P w = .ok (.tuple #[.agg c, v]) w := by
 have hp' : tmps[d]?.getD undef = .pointer (some ⟨b, 0, none⟩) := by simpa using hp
 have hv' : tmps[e]?.getD undef = v := by simpa using hv
 simp [results, h, hp', hv', asAddr, zew hA hS w b 0 c hl]
theorem zao {T : TypeId} {n : Nat} (hA : ∀ w, (isAgg T).run P w = .ok true w) (hS : ∀ w, (Go.sizeOf T).run P w = .ok n w) (fn : Func) (d : Nat) (h : fn.results = #[.cell d T]) (tmps : Array Value) (w : World) (b : Nat) (c : Array Value) (hp : tmps.getD d undef = .pointer (some ⟨b, 0, none⟩)) (hl : ldA w (.pointer (some ⟨b, 0, none⟩)) n = some c) :
  (results fn tmps).run P w = .ok (.agg c) w := by
 have hp' : tmps[d]?.getD undef = .pointer (some ⟨b, 0, none⟩) := by simpa using hp
 simp [results, h, hp', asAddr, zew hA hS w b 0 c hl]
end
@[go_sem] theorem ydc (w : World) (c : Array Value) (t : TypeId) (b o n : Nat) (h : b = w.heap.size) (hn : o + n ≤ c.size) : wrA (w.alloc (.cells c t)) (.pointer (some ⟨b, o, none⟩)) n = true := by
 subst h
 exact yhg (heap_alloc_last w _) hn
@[go_sem] theorem yk3 (w : World) (v x : Value) : stA w.drew v x = (stA w v x).drew := z75 w v x 1
theorem zru {α : Type} {E : Lie α} (w : World) (l : List α) (n : Nat) (hn : l.length = n) (hl : n ≤ maxLen) (c : Array Value) (hc : c.toList = zaq E l) (b : Nat) (hb : b = w.heap.size) : OwnE E (w.alloc (.cells c E.t)) b (.slice (some ⟨b, 0, none⟩) n n) l := by
 subst hb hn
 have hs : c.size = l.length * E.n := by rw [← Array.length_toList, hc, zbl]
 refine ⟨zbl E l, .inr ⟨w.heap.size, l.length, c, rfl, Nat.le_refl _, heap_alloc_last w _, Nat.le_refl _, hl, hs, ?_⟩⟩
 rw [hc]
 exact List.take_of_length_le (by rw [zbl]; exact Nat.le_refl _)
theorem below1 {w : World} {o : Obj} : Below w.heap.size w (w.alloc o) := (Below.refl _ _).alloc (Nat.le_refl _) _
theorem zac {w w' : World} {b : Nat} {o : Obj} (g : Below w.heap.size w w') (h : w.heap[b]? = some o) : w'.heap[b]? = some o := (g.block _ (Array.getElem?_eq_some_iff.1 h).1).trans h
theorem zf2 (w : World) (a b c : Array Value) (s t u : TypeId) (W : World) (hW : W = ((w.alloc (.cells a s)).alloc (.cells b t)).alloc (.cells c u)) : Below w.heap.size w W ∧ W.heap[w.heap.size]? = some (.cells a s (0, 0)) ∧ W.heap[w.heap.size + 1]? = some (.cells b t (0, 0)) ∧ W.heap[w.heap.size + 2]? = some (.cells c u (0, 0)) ∧ W.heap.size = w.heap.size + 3 := by
 subst hW
 have e1 : ∀ o : Obj, (w.alloc o).heap.size = w.heap.size + 1 := fun o => by simp
 have e2 : ∀ o o' : Obj, ((w.alloc o).alloc o').heap.size = w.heap.size + 2 := fun o o' => by simp
 refine ⟨zab (zab below1 below1) below1, ?_, ?_, ?_, by simp⟩
 ·
  exact zac below1 (zac below1 (heap_alloc_last w _))
 ·
  have := zac (below1 (o := .cells c u)) (heap_alloc_last (w.alloc (.cells a s)) (.cells b t))
  rwa [e1] at this
 ·
  have := heap_alloc_last ((w.alloc (.cells a s)).alloc (.cells b t)) (.cells c u)
  rwa [e2] at this
theorem zc2 (w : World) (a b : Array Value) (s t : TypeId) (W : World) (hW : W = (w.alloc (.cells a s)).alloc (.cells b t)) : Below w.heap.size w W ∧ W.heap[w.heap.size]? = some (.cells a s (0, 0)) ∧ W.heap[w.heap.size + 1]? = some (.cells b t (0, 0)) ∧ W.heap.size = w.heap.size + 2 := by
 subst hW
 have e1 : ∀ o : Obj, (w.alloc o).heap.size = w.heap.size + 1 := fun o => by simp
 refine ⟨zab below1 below1, ?_, ?_, by simp⟩
 ·
  exact zac below1 (heap_alloc_last w _)
 ·
  have := heap_alloc_last (w.alloc (.cells a s)) (.cells b t)
  rwa [e1] at this
theorem zbc {w : World} {g o : Nat} {v : Value} (h : w.cell? ⟨g, o, none⟩ = some v) (p : Wd w.drew) : p.w.cell? ⟨g, o, none⟩ = some v := (p.h.cell (p := ⟨g, o, none⟩) (block_lt_of_cell (show w.drew.cell? ⟨g, o, none⟩ = some v from h))).trans h
theorem zbb {w : World} {v : Value} {n : Nat} {c : Array Value} (h : ldA w v n = some c) (hn : 0 < n := by decide) (p : Wd w.drew) : ldA p.w v n = some c := ydn (show ldA w.drew v n = _ by rw [zyw]; exact h) hn p
theorem zna {w : World} {g : Nat} {c r : Array Value} {t : TypeId} (hg : w.heap[g]? = some (.cells c t (0, 0))) (h : r.size = c.size) : (stA w (.pointer (some ⟨g, 0, none⟩)) (.agg r)).heap[g]? = some (.cells r t (0, 0)) := by
 rw [zb6 hg (by omega)]
 congr 2
 apply Array.toList_inj.1
 unfold zba
 simp only [List.take_zero, List.nil_append, Nat.zero_add]
 rw [List.drop_of_length_le (by rw [Array.length_toList]; omega), List.append_nil]
def IntsIs (L : List Int) (w : World) (e : Ending) (w' : World) : Prop := ∃ v, e = .returned v ∧ OwnE Eint w' w.heap.size v L ∧ Below w.heap.size w w'
theorem zwa {w : World} {b off : Nat} {a : List Int} (h : w.rangeAt b off (zaq Eint a)) {i : Nat} (hi : i < a.length) : w.cell? ⟨b, off + i, none⟩ = some (.int .i64 (a.getD i 0)) := by
 have := zqr h hi (j := 0) (v := .int .i64 a[i]) rfl
 rw [List.getD_eq_getElem?_getD, List.getElem?_eq_getElem hi]
 simpa [Eint] using this
theorem zq8 {w : World} {p : Option Addr} {n cp : Nat} {a : List Int} (h : SlE Eint w (.slice p n cp) a) (h0 : 0 < a.length) : ∃ b o, p = some ⟨b, o, none⟩ ∧ b < w.heap.size ∧ w.rangeAt b o (zaq Eint a) := by
 obtain ⟨b, o, c, e, _, q, x⟩ := zcz h h0
 injection e with e1 e2 e3
 exact ⟨b, o, e1, q, x⟩
def yht (L : List Int) (w : World) (e : Ending) (w' : World) : Prop := ∃ v, e = .returned v ∧ SlE Eint w' v L ∧ Below w.heap.size w w'
theorem IntsIs.list {L : List Int} {w w' : World} {e : Ending} (h : IntsIs L w e w') : yht L w e w' := by
 obtain ⟨v, h1, h2, h3⟩ := h
 exact ⟨v, h1, za2 h2, h3⟩
theorem zbk {w : World} {s : SlV} {l : List Nd} (h : SlE Ene w (sv s) l) : l.length = s.len := by
 obtain ⟨p', cap', e, _⟩ := zal h
 unfold sv at e; injection e with _ e; exact e.symm
theorem zjd {w : World} {b off : Nat} {l : List Nd} (h : w.rangeAt b off (zaq Ene l)) {i : Nat} (hi : i < l.length) : ldA w (.pointer (some ⟨b, off + i * 35, none⟩)) 35 = some (ne (nd l i)) := by
 have := zp0 h hi
 rw [zrj l hi]
 exact this.trans (by rw [show (Ene.enc l[i]).toArray = ne l[i] from Array.toList_inj.1 (by rw [zrl]; rfl)])
theorem zdf {w : World} {b off : Nat} {l : List Nd} (h : w.rangeAt b off (zaq Ene l)) {i : Nat} (hi : i < l.length) : ldA w (.pointer (some ⟨b, off + i * 35, none⟩)) 32 = some (rc (nd l i).root) := by
 have := zp9 (zdi h hi)
 rw [zrj l hi]
 exact this
theorem zga {w : World} {b off : Nat} {l : List Nd} (h : w.rangeAt b off (zaq Ene l)) {i : Nat} (hi : i < l.length) : w.cell? ⟨b, off + i * 35 + 32, none⟩ = some (.int .i64 (nd l i).parent) := by
 have := zk1 (zdi h hi)
 rw [zrj l hi]
 exact this
theorem zhm {w : World} {b off : Nat} {l : List Nd} (h : w.rangeAt b off (zaq Ene l)) {i : Nat} (hi : i < l.length) : w.cell? ⟨b, off + i * 35 + 33, none⟩ = some (.int .u64 ((nd l i).slot.toNat : Int)) := by
 have := zqa (zdi h hi)
 rw [zrj l hi]
 exact this
theorem zrk {w : World} {g : Nat} {x : Nd} (h : w.heap[g]? = some (.cells (ne x) 63 (0, 0))) : ldA w (.pointer (some ⟨g, 0, none⟩)) 32 = some (rc x.root) ∧ w.cell? ⟨g, 32, none⟩ = some (.int .i64 x.parent) ∧ w.cell? ⟨g, 33, none⟩ = some (.int .u64 (x.slot.toNat : Int)) ∧ w.cell? ⟨g, 34, none⟩ = some (.int .u64 (x.just.toNat : Int)) ∧ ldA w (.pointer (some ⟨g, 0, none⟩)) 35 = some (ne x) ∧ g < w.heap.size :=
 ⟨zid h, zrn h, zwl h, znp h, zar h (zro x), (Array.getElem?_eq_some_iff.1 h).1⟩
theorem zai {w : World} {g : Nat} {x : Tr} (h : w.heap[g]? = some (.cells (tr x) 24 (0, 0))) : w.cell? ⟨g, 0, none⟩ = some (sv x.n) ∧ ldA w (.pointer (some ⟨g, 0, none⟩)) 1 = some (tr x) ∧ g < w.heap.size :=
 ⟨ycz h, zar h (zbn x), (Array.getElem?_eq_some_iff.1 h).1⟩
theorem ydw {l k : List Nd} (hl : l.length = k.length) (h : ∀ i, i < k.length → nd l i = nd k i) : l = k := by
 refine List.ext_getElem hl fun i h1 h2 => ?_
 have := h i h2
 rwa [zrj l h1, zrj k h2] at this
theorem zz7 {l : List Nd} (h : MayT l) {i m : Nat} (hm : m < l.length) (hi : ¬ i < m) : zat l i m = decide (m = i) := by
 by_cases h0 : m = 0
 ·
  subst h0
  rw [zcg, Bool.eq_iff_iff, decide_eq_true_iff, decide_eq_true_iff]
  omega
 ·
  rw [zln h i (Nat.pos_of_ne_zero h0) hm, if_neg hi]
theorem zcj {w : World} {p : Option Addr} {n cp : Nat} {l : List Nd} (h : SlE Ene w (.slice p n cp) l) (h0 : 0 < l.length) : ∃ b o, p = some ⟨b, o, none⟩ ∧ b < w.heap.size ∧ w.rangeAt b o (zaq Ene l) := by
 obtain ⟨b, o, c, e, _, q, x⟩ := zcz h h0
 injection e with e1 e2 e3
 exact ⟨b, o, e1, q, x⟩
theorem yj6 {w : World} {g : Nat} {x : Tr} (h : w.heap[g]? = some (.cells (tr x) 24 (0, 0))) (p : Wd w.drew) : ldA p.w (.pointer (some ⟨g, 0, none⟩)) 1 = some (tr x) := ydn (show ldA w.drew _ 1 = _ by rw [zyw]; exact zar h (zbn _)) (by decide) p
def zcq (l : List Nd) (i j : Nat) : List Int := ((List.range j).filter fun k => decide ((nd l k).parent = (i : Int))).map fun k : Nat => (k : Int)
theorem zpy {l : List Nd} {i j : Nat} (h : (nd l j).parent = (i : Int)) : zcq l i (j + 1) = zcq l i j ++ [(j : Int)] := by
 unfold zcq
 rw [List.range_succ, List.filter_append, List.map_append]
 simp [h]
theorem ztj {l : List Nd} {i j : Nat} (h : (nd l j).parent ≠ (i : Int)) : zcq l i (j + 1) = zcq l i j := by
 unfold zcq
 rw [List.range_succ, List.filter_append, List.map_append]
 simp [h]
theorem zpx (l : List Nd) (i j : Nat) : (zcq l i j).length ≤ j := by
 unfold zcq
 rw [List.length_map]
 have := List.length_filter_le (fun k => decide ((nd l k).parent = (i : Int))) (List.range j)
 rwa [List.length_range] at this
def zhu (l : List Nd) (i : Int) : List Int := (z09 l i).map fun k : Nat => (k : Int)
theorem znb {l : List Nd} (h : MayT l) {i : Nat} (hi : i < l.length) : zhu l (i : Int) = zcq l i l.length := by
 unfold zhu
 rw [znd h hi]
 rfl
theorem zti {l : List Nd} {i : Int} (h : isT l i = false) : zhu l i = [] := by
 unfold zhu z09
 rw [h]
 rfl
open Go.RowKit
structure Tw (w W : World) (T : Nat) (s : SlV) (l : List Nd) : Prop where
 box : W.heap[T]? = some (.cells (tr ⟨s⟩) 24 (0, 0))
 s : SlE Ene W (sv s) l
 g : Below w.heap.size w W
section
variable {w W W' : World} {T : Nat} {s : SlV} {l : List Nd}
theorem Tw.keep (h : Tw w W T s l) (g : Below W.heap.size W W') : Tw w W' T s l := ⟨zac g h.box, zad g h.s, zab h.g g⟩
theorem Tw.z1 (h : Tw w W T s l) : ldA W (.pointer (some ⟨T, 0, none⟩)) 1 = some (tr ⟨s⟩) := (zai h.box).2.1
theorem Tw.z0 (h : Tw w W T s l) : W.cell? ⟨T, 0, none⟩ = some (sv s) := (zai h.box).1
theorem zz0 (h : SlE Ene w (sv s) l) : Tw w (w.alloc (.cells (tr ⟨s⟩) 24)) w.heap.size s l := ⟨heap_alloc_last w _, zad below1 h, below1⟩
end
open Go.RowKit
theorem ybk {w : World} {b off : Nat} {l : List Nd} (h : w.rangeAt b off (zaq Ene l)) {i : Nat} (hi : i < l.length) : w.cell? ⟨b, off + i * 35 + 34, none⟩ = some (.int .u64 ((nd l i).just.toNat : Int)) := by
 have := zp8 (zdi h hi)
 rw [zrj l hi]
 exact this
section
variable {l : List Nd}
theorem ya4 {just : Nat} {fin i : Int} (h : zbp l fin i = false) : zfm l just fin i = false := by unfold zfm; rw [h]; rfl
theorem ya3 (hm : MayT l) {just : Nat} {fin : Int} {i : Nat} (hi : i < l.length) (h : zbp l fin (i : Int) = true) : zfm l just fin (i : Int) = (decide (znc l i = []) && decide (just ≤ (nd l i).just.toNat)) := by
 unfold zfm
 rw [h, znd hm hi, Bool.true_and]
 rfl
def zdp (p : Nat → Bool) (j : Nat) : List Bool := (List.range j).map p
theorem z0b (p : Nat → Bool) (j : Nat) : zdp p (j + 1) = zdp p j ++ [p j] := by unfold zdp; rw [List.range_succ, List.map_append]; rfl
theorem zgs (p : Nat → Bool) (j : Nat) : (zdp p j).length = j := by unfold zdp; simp
theorem zng (h : MayT l) {just : Nat} {fin : Int} : zp1 l just fin = zdp (zkf l just fin) l.length := if_pos h
theorem zyy (h : ¬ MayT l) {just : Nat} {fin : Int} : zp1 l just fin = [] := if_neg h
theorem z9l {p : Nat → Bool} {n i : Nat} (hi : i < n) : bn (zdp p n) i = p i := by
 rw [yh6 (by rw [zgs]; exact hi)]
 unfold zdp
 simp
def anyL (l : List Nd) (just : Nat) (fin : Int) (i j : Nat) : Bool := anyB (fun k => zat l i k && zfm l just fin (k : Int)) j
theorem z3v {just : Nat} {fin : Int} {i j : Nat} : anyL l just fin i (j + 1) = (anyL l just fin i j || (zat l i j && zfm l just fin (j : Int))) := rfl
theorem z9e {just : Nat} {fin : Int} {i : Nat} : anyL l just fin i l.length = zkf l just fin i := rfl
end
structure Sg where
 ver : Int
 t : List Nd
 head : Rt
 just : Ck
 fin : Ck
theorem Sg.ext {x y : Sg} (h0 : x.ver = y.ver) (h1 : x.t = y.t) (h2 : x.head = y.head) (h3 : x.just = y.just) (h4 : x.fin = y.fin) : x = y := by cases x; cases y; simp_all
instance : DecidableEq Sg := fun x y => decidable_of_iff (x.ver = y.ver ∧ x.t = y.t ∧ x.head = y.head ∧ x.just = y.just ∧ x.fin = y.fin) ⟨fun h => Sg.ext h.1 h.2.1 h.2.2.1 h.2.2.2.1 h.2.2.2.2, fun h => by subst h; exact ⟨rfl, rfl, rfl, rfl, rfl⟩⟩
structure Rg where
 e : Nat
 r : Rt
 is : Bool
 c : Ck
def zRg : Rg := ⟨0, zr, false, zcc⟩
def zh2 (e : Eg) : Int := zaz e.t e.fin.root
def zdy (e : Eg) : Ck := zh5 e.t e.j e.fin
def ztq (e : Eg) : List Bool := zp1 e.t (zdy e).epoch.toNat (zh2 e)
def zq5 (e : Eg) : Int := zm5 e.t (zdy e).root (zh2 e)
def zte (e : Eg) : Int := zib e.t e.w (ztq e) (zq5 e)
def zSg : Sg := ⟨0, [], zr, zcc, zcc⟩
def ofE (e : Eg) (ver : Int) : Sg := if mayG e = true then ⟨ver, e.t, (nd e.t (zte e).toNat).root, zdy e, e.fin⟩ else zSg
def mayN (s : Sg) : Bool := zbp s.t (zaz s.t s.fin.root) (zaz s.t s.head) && zbp s.t (zaz s.t s.fin.root) (zaz s.t s.just.root)
def askN (s : Sg) (kind : Int) (a b : Rt) (slot : Nat) : Rg :=
 if mayN s = true then
  (if kind = 5 then { zRg with r := s.head } else if kind = 8 then { zRg with c := s.fin }
   else if kind = 6 then (if zaz s.t a < 0 then { zRg with e := 5 } else if atZ s.t (zaz s.t a) slot < 0 then { zRg with e := 8 } else { zRg with r := (nd s.t (atZ s.t (zaz s.t a) slot).toNat).root })
   else if kind = 7 then (if zaz s.t a < 0 ∨ zaz s.t b < 0 then { zRg with e := 5 } else { zRg with is := zbp s.t (zaz s.t a) (zaz s.t b) })
   else { zRg with e := 1 })
 else { zRg with e := 1 }
section
variable {e : Eg}
theorem z6r (h : MayS' e) (ver : Int) : ofE e ver = ⟨ver, e.t, (nd e.t (zte e).toNat).root, zdy e, e.fin⟩ := by unfold ofE; rw [if_pos (zy4.2 h)]
theorem ybd {s : Sg} : mayN s = true ↔ zbp s.t (zaz s.t s.fin.root) (zaz s.t s.head) = true ∧ zbp s.t (zaz s.t s.fin.root) (zaz s.t s.just.root) = true := by unfold mayN; rw [Bool.and_eq_true]
theorem yfw (h : MayS' e) : ∃ i k : Nat, i < e.t.length ∧ k < e.t.length ∧ zh2 e = i ∧ zaz e.t (zdy e).root = k ∧ (nd e.t k).root = (zdy e).root ∧ (nd e.t i).root = e.fin.root ∧ zat e.t i k = true ∧ zq5 e = k := by
 obtain ⟨i, hi, e1, e2, _⟩ := yiw h
 have hk : ∃ k : Nat, k < e.t.length ∧ zaz e.t (zdy e).root = k ∧ zat e.t i k = true := by
  rcases (yay (l := e.t) (js := e.j) (fin := e.fin)).1 with q | ⟨_, q, _⟩
  ·
   exact ⟨i, hi, by show zaz e.t (zh5 e.t e.j e.fin).root = _; rw [q]; exact e1, zcn h.t hi⟩
  ·
   obtain ⟨a, b, _, f1, f2, ha, hb, hab⟩ := zsv q
   rw [e1] at f1
   obtain rfl : i = a := by omega
   exact ⟨b, hb, f2, hab⟩
 obtain ⟨k, hk, f, hab⟩ := hk
 have hr : (nd e.t k).root = (zdy e).root := by
  rcases zcs h.t (zdy e).root with ⟨m, _, g1, g2⟩ | ⟨g1, _⟩
  ·
   obtain rfl : k = m := by omega
   exact g2
  ·
   omega
 refine ⟨i, k, hi, hk, e1, f, hr, e2, hab, ?_⟩
 unfold zq5 zh2
 rw [e1]
 unfold zm5
 rw [if_pos (zg0 h.t hi), f, if_pos (by rw [zdn h.t hi hk]; exact hab)]
theorem z5v (h : MayS' e) : zdm e.t e.w (ztq e) = true := zdk.2 ⟨h.t, by rw [h.w, z8s h.fit], by unfold ztq; rw [zng h.t, zgs]⟩
theorem z5j (h : MayS' e) : ∃ i k m : Nat, i < e.t.length ∧ k < e.t.length ∧ m < e.t.length ∧ zh2 e = i ∧ zaz e.t (zdy e).root = k ∧ (nd e.t k).root = (zdy e).root ∧ (nd e.t i).root = e.fin.root ∧ zat e.t i k = true ∧ zat e.t k m = true ∧ zq5 e = k ∧ zte e = m ∧ m = zov e.t e.w (ztq e) k := by
 obtain ⟨i, k, hi, hk, e1, e2, e3, e4, e5, e6⟩ := yfw h
 obtain ⟨w1, w2, _⟩ := zwd (w := e.w) (b := ztq e) h.t hk
 refine ⟨i, k, _, hi, hk, w1, e1, e2, e3, e4, e5, w2, e6, ?_, rfl⟩
 unfold zte
 rw [e6, ztf (z5v h) hk]
end
section
variable {l : List Nd} {i : Nat}
variable {w w' : Nat → Nat} {leads leads' : Nat → Bool}
end
section
variable {e : Eg}
theorem zl9 {s : Sg} (h : mayN s = true) (kind : Int) (a b : Rt) (slot : Nat) : askN s kind a b slot =
  (if kind = 5 then { zRg with r := s.head } else if kind = 8 then { zRg with c := s.fin }
   else if kind = 6 then (if zaz s.t a < 0 then { zRg with e := 5 } else if atZ s.t (zaz s.t a) slot < 0 then { zRg with e := 8 } else { zRg with r := (nd s.t (atZ s.t (zaz s.t a) slot).toNat).root })
   else if kind = 7 then (if zaz s.t a < 0 ∨ zaz s.t b < 0 then { zRg with e := 5 } else { zRg with is := zbp s.t (zaz s.t a) (zaz s.t b) })
   else { zRg with e := 1 }) := by unfold askN; rw [if_pos h]
end
section
variable {s : Sg}
theorem zp7 (h : mayN s = true) : MayT s.t := (zb2.1 (by have := (ybd.1 h).1; unfold zbp at this; rw [Bool.and_eq_true, Bool.and_eq_true] at this; exact this.1.1)).1
theorem z3w (h : mayN s = true) (r b : Rt) (slot : Nat) : (zaz s.t r = -1 ∧ askN s 6 r b slot = { zRg with e := 5 }) ∨ ∃ i : Nat, i < s.t.length ∧ zaz s.t r = i ∧
  ((atT s.t i slot = -1 ∧ askN s 6 r b slot = { zRg with e := 8 } ∧ ∀ k, zat s.t k i = true → slot < sl s.t k) ∨ ∃ q : Nat, atT s.t i slot = q ∧ q < s.t.length ∧ zat s.t q i = true ∧ sl s.t q ≤ slot ∧ askN s 6 r b slot = { zRg with r := (nd s.t q).root }) := by
 have ht := zp7 h
 have ha := zl9 h 6 r b slot
 rw [if_neg (by decide), if_neg (by decide), if_pos rfl] at ha
 rcases zcs ht r with ⟨i, hi, e1, _⟩ | ⟨e1, _⟩
 ·
  refine .inr ⟨i, hi, e1, ?_⟩
  rw [e1, if_neg (by omega), zma ht hi] at ha
  rcases z3y ht slot i hi with ⟨q1, q2⟩ | ⟨q, q1, q2, q3, q4, _⟩
  ·
   rw [q1, if_pos (by decide)] at ha
   exact .inl ⟨q1, ha, q2⟩
  ·
   rw [q1, if_neg (by omega)] at ha
   have hq : ((q : Int)).toNat = q := by omega
   rw [hq] at ha
   exact .inr ⟨q, q1, q2, q3, q4, ha⟩
 ·
  rw [e1, if_pos (by decide)] at ha
  exact .inl ⟨e1, ha⟩
theorem zya (h : mayN s = true) (a b : Rt) (slot : Nat) : ((zaz s.t a = -1 ∨ zaz s.t b = -1) ∧ askN s 7 a b slot = { zRg with e := 5 }) ∨ ∃ i k : Nat, i < s.t.length ∧ k < s.t.length ∧ zaz s.t a = i ∧ zaz s.t b = k ∧ askN s 7 a b slot = { zRg with is := zat s.t i k } := by
 have ht := zp7 h
 have ha := zl9 h 7 a b slot
 rw [if_neg (by decide), if_neg (by decide), if_neg (by decide), if_pos rfl] at ha
 rcases zcs ht a with ⟨i, hi, e1, _⟩ | ⟨e1, _⟩
 ·
  rcases zcs ht b with ⟨k, hk, f1, _⟩ | ⟨f1, _⟩
  ·
   rw [e1, f1, if_neg (by omega), zdn ht hi hk] at ha
   exact .inr ⟨i, k, hi, hk, e1, f1, ha⟩
  ·
   rw [f1, if_pos (.inr (by decide))] at ha
   exact .inl ⟨.inr f1, ha⟩
 ·
  rw [e1, if_pos (.inl (by decide))] at ha
  exact .inl ⟨.inl e1, ha⟩
end
section
open Go.RowKit
theorem yft : (Tryz.prog.info? 115).map (fun i => (i.zero, i.size, i.bytes)) = some (some (.agg (lt zlt)), 34, 48) := by kernel_rfl
section
open Go.WideShapes Go.ChangeShapes
variable {H : Type} {enc : TypeId × Value → H} {w : World} {base : Nat} {sp : Nat → Bool} {held : Bool}
theorem z9w {fuel : Nat} {v : Value} {x : DataW H × List MemPlace} (h : DataW.trod enc Tryz.prog w base sp held fuel 26 [v] = some x) : ∃ l : List Lt, SlE Elt w v l :=
 zh6 Tryz.underlying26 zpg (fun _ cs _ h => z92 (by obtain ⟨_, _, _, _, hl, _⟩ := DataW.trod_struct zhr h; rw [hl, zpg]) h) h
theorem z4e {fuel : Nat} {cs : List Value} {x : DataW H × List MemPlace} (h : DataW.trod enc Tryz.prog w base sp held fuel 26 cs = some x) : ∃ s : SlV, cs = [sv s] ∧ ∃ l : List Lt, SlE Elt w (sv s) l := by
 rcases Deep.open_slice Tryz.underlying26 h with ⟨h1, _⟩ | ⟨a', len', cap', _, _, _, _, h1, _⟩
 ·
  subst h1
  exact ⟨⟨none, 0, 0⟩, rfl, [], zbg _ _ _ _⟩
 ·
  subst h1
  exact ⟨⟨some a', len', cap'⟩, rfl, z9w h⟩
end
end
section
open Go.RowKit
structure Vo where
 l : SlV
 out : UInt64
def voL (x : Vo) : List Value := [sv x.l] ++ ([num x.out])
def vo (x : Vo) : Array Value := (voL x).toArray
theorem zso (x : Vo) : (vo x).toList = voL x := rfl
theorem yj2 (x : Vo) : (voL x).length = 2 := by simp [voL]
theorem zcp (x : Vo) : (vo x).size = 2 := by rw [← Array.length_toList, zso, yj2]
theorem yea (x : Vo) : ∀ v ∈ voL x, v.oneCell' = true := by
 intro v hv
 unfold voL at hv
 simp only [List.mem_append, List.mem_singleton] at hv
 rcases hv with rfl | rfl
 ·
  rfl
 ·
  rfl
@[go_sem] theorem ym3 (x : Vo) : okA 2 (.agg (vo x)) = true := by
 show ((vo x).size == 2 && (vo x).all (·.oneCell')) = true
 rw [show (vo x).all (·.oneCell') = true from zdo (yea x), zcp]; rfl
def zvo : Vo := ⟨⟨none, 0, 0⟩, 0⟩
theorem zx7 (w : World) : (zeroValue 29).run Tryz.prog w = .ok (.agg (vo zvo)) w := by kernel_rfl
@[go_sem ↓] theorem yl8 (ρ : Operand → Value) (dst : Option Tmp) (x : Operand) (ty : TypeId) (pos : String) (after : Array Edge) (guard : Option (Nat × Bool)) (w : World) :
  (execOp ρ { dst, op := .load 29 x, type := ty, pos, after, guard }).run Tryz.prog w = zi5 (ldA w (ρ x) 2) w (zbf Tryz.prog ρ { dst, op := .load 29 x, type := ty, pos, after, guard } w) :=
 zbq Tryz.isAgg29 Tryz.sizeOf29 ρ dst x ty pos after guard w
@[go_sem ↓] theorem ylg (ρ : Operand → Value) (dst : Option Tmp) (x y : Operand) (ty : TypeId) (pos : String) (after : Array Edge) (guard : Option (Nat × Bool)) (w : World) :
  (execOp ρ { dst, op := .store 29 x y, type := ty, pos, after, guard }).run Tryz.prog w = zhv (wrA w (ρ x) 2 && okA 2 (ρ y)) (stA w (ρ x) (ρ y)) (zbf Tryz.prog ρ { dst, op := .store 29 x y, type := ty, pos, after, guard } w) :=
 zbe Tryz.sizeOf29 ρ dst x y ty pos after guard w
@[go_sem ↓] theorem ykq (ρ : Operand → Value) (dst : Option Tmp) (ty : TypeId) (pos : String) (after : Array Edge) (guard : Option (Nat × Bool)) (w : World) :
  (execOp ρ { dst, op := .alloc 29, type := ty, pos, after, guard }).run Tryz.prog w = .ok (.value (.pointer (some ⟨w.heap.size, 0, none⟩))) (w.alloc (.cells (vo zvo) 29)) := by
 unfold execOp
 simp only [Instr.alloc, Sem.run_bind, zx7, Result.andThen_ok]
 rfl
def places_vo : List (Nat × Nat) := [(0, 1), (1, 1)]
theorem zs9 : ∀ w : World, ((Tryz.prog.fieldsOf 29).mapM (m := Sem) fun f => do pure (f.offset, ← Go.sizeOf f.type)).run Tryz.prog w = .ok places_vo.toArray w := fun _ => by kernel_rfl
theorem zl3 : Tryz.prog.underlying 29 = some (.struct (Tryz.prog.fieldsOf 29)) := by kernel_rfl
theorem z5d : (Tryz.prog.fieldsOf 29).toList.map (fun f => (f.name, f.type, f.offset)) = [("L", 26, 0), ("Out", 27, 1)] := by kernel_rfl
@[go_sem ↓] theorem yk1 (ρ : Operand → Value) (dst : Option Tmp) (p : Nat × Operand) (ps : List (Nat × Operand)) (ty : TypeId) (pos : String) (after : Array Edge) (guard : Option (Nat × Bool)) (w : World) :
  (execOp ρ { dst, op := .build 29 (p :: ps).toArray, type := ty, pos, after, guard }).run Tryz.prog w = zgh ((zgp places_vo (vo zvo) ((p.1, ρ p.2) :: ps.map fun p => (p.1, ρ p.2))).map .agg) w (zbf Tryz.prog ρ { dst, op := .build 29 (p :: ps).toArray, type := ty, pos, after, guard } w) :=
 zbv zx7 zl3 zs9 ρ dst (p :: ps).toArray ty pos after guard w
@[go_sem ↓] theorem yib (ρ : Operand → Value) (dst : Option Tmp) (ty : TypeId) (pos : String) (after : Array Edge) (guard : Option (Nat × Bool)) (w : World) :
  (execOp ρ { dst, op := .build 29 #[], type := ty, pos, after, guard }).run Tryz.prog w = .ok (.value (.agg (vo zvo))) w :=
 zbv zx7 zl3 zs9 ρ dst #[] ty pos after guard w
attribute [go_sem] places_vo zcp
theorem zkq (x : Vo) : voL x = ([]) ++ ([sv x.l] ++ ([num x.out])) ∧ ([] : List Value).length = 0 := by
 constructor
 ·
  unfold voL; simp
 ·
  rfl
theorem yc4 (x : Vo) : (vo x)[0]? = some (sv x.l) := zgy (zkq x).1 (zkq x).2
@[go_sem] theorem yml (x : Vo) (h : 0 < (vo x).size) : (vo x)[0]'h = sv x.l := by have := yc4 x; rw [Array.getElem?_eq_getElem h] at this; exact Option.some.inj this
theorem z8h {w : World} {b off : Nat} {x : Vo} (h : w.rangeAt b off (voL x)) : w.cell? ⟨b, off + 0, none⟩ = some (sv x.l) := zbj h (zkq x).1 (zkq x).2
theorem yc5 {w : World} {g : Nat} {t : TypeId} {fr : Nat × Nat} {x : Vo} (h : w.heap[g]? = some (.cells (vo x) t fr)) : w.cell? ⟨g, 0, none⟩ = some (sv x.l) := by have := z8h (x := x) (zak h); rwa [Nat.zero_add] at this
theorem zz3 (x : Vo) (y : SlV) : zba (vo x) 0 #[sv y] = vo { x with l := y } := by
 rw [za6 (c := vo x) (r := #[sv y]) (zkq x).1 (zkq x).2 rfl]
 simp [vo, voL]
theorem zu8 (x : Vo) : voL x = ([sv x.l]) ++ ([num x.out] ++ ([])) ∧ ([sv x.l] : List Value).length = 1 := by
 constructor
 ·
  unfold voL; simp
 ·
  simp
theorem z8i {w : World} {b off : Nat} {x : Vo} (h : w.rangeAt b off (voL x)) : w.cell? ⟨b, off + 1, none⟩ = some (num x.out) := zbj h (zu8 x).1 (zu8 x).2
theorem z3d {w : World} {g : Nat} {t : TypeId} {fr : Nat × Nat} {x : Vo} (h : w.heap[g]? = some (.cells (vo x) t fr)) : w.cell? ⟨g, 1, none⟩ = some (num x.out) := by have := z8i (x := x) (zak h); rwa [Nat.zero_add] at this
attribute [go_sem] zz3
@[go_sem] theorem yj3 (x : Vo) (p : Option Addr) (k c : Nat) : zba (vo x) 0 #[.slice p k c] = vo { x with l := ⟨p, k, c⟩ } := zz3 x ⟨p, k, c⟩
theorem z0g : Tryz.prog.cellsOf 29 = 2 := by kernel_rfl
section
open Go.WideShapes Go.ChangeShapes
variable {H : Type} {enc : TypeId × Value → H} {w : World} {base : Nat} {sp : Nat → Bool} {held : Bool}
theorem z95 {fuel : Nat} {cs : List Value} {x : DataW H × List MemPlace} (hl : cs.length = 2) (h : DataW.trod enc Tryz.prog w base sp held fuel 29 cs = some x) : ∃ a : Vo, cs = voL a ∧ (∃ l, SlE Elt w (sv a.l) l) := by
 obtain ⟨_, _, h0⟩ := zav (i := 0) zl3 z5d rfl h
 rw [show Tryz.prog.cellsOf 26 = 1 from by kernel_rfl] at h0
 obtain ⟨a0, e0, k0⟩ := z4e h0
 obtain ⟨_, _, h1⟩ := zav (i := 1) zl3 z5d rfl h
 rw [zb9] at h1
 obtain ⟨a1, e1⟩ := zcy h1
 refine ⟨⟨a0, a1⟩, ?_, k0⟩
 unfold voL
 have j0 := za9 cs 0 1
 rw [e0] at j0
 have j1 := za9 cs 1 1
 rw [e1] at j1
 have jl : cs.drop 2 = [] := List.drop_of_length_le (by omega)
 rw [show (1 + 1) = 2 from rfl, jl, List.append_nil] at j1
 rw [← List.drop_zero (l := cs)]
 rw [← j0]
 rw [show cs.drop (0 + 1) = cs.drop 1 from rfl, ← j1]
 try rfl
end
attribute [irreducible] vo
end
end Go.Proofs.YtkalofboioffiaaGreat
