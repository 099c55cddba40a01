import Derived.Test.YtmihlihlpdkdcaaGreatK16
import Derived.Test.YtmihlihlpdkdcaaGreatK11
import Derived.Test.YtmihlihlpdkdcaaGreatQ02
import Derived.Test.YtmihlihlpdkdcaaGreatQ03
import Derived.Test.YtmihlihlpdkdcaaGreatQ09
import Derived.Laws.Cover3
import Derived.Test.YtmihlihlpdkdcaaGreatK12
import Derived.Test.YtmihlihlpdkdcaaGreatQ08
import Derived.Deep.Cut
import Derived.Test.YtmihlihlpdkdcaaGreatK15
namespace Go.Proofs.YtmihlihlpdkdcaaGreat
open Go.RowKit
set_option maxRecDepth 200000
set_option maxHeartbeats 64000000
open Go.RowKit
section
variable {w W W' : World} {T R U : Nat} {x x0 : En} {g g0 : Eg} {s : SlV}
theorem EnAt.k {l : List Lk} (h : EnAt W U) (hs : SlE Elk W (sv s) l) : FarE U s l := by
 obtain ⟨z, hz⟩ := h
 exact z6y hz hs
theorem EnAt.late {l : List Aa} (h : EnAt W U) (hs : SlE Eaa W (sv s) l) : FarE U s l := by
 obtain ⟨z, hz⟩ := h
 exact zj9 hz hs
theorem EnAt.v {l : List Lt} (h : EnAt W U) (hs : SlE Elt W (sv s) l) : FarE U s l := by
 obtain ⟨z, hz⟩ := h
 exact z0t hz hs
theorem EnAt.t {l : List Nd} (h : EnAt W U) (hs : SlE Ene W (sv s) l) : FarE U s l := by
 obtain ⟨z, hz⟩ := h
 exact yb9 hz hs
def EgErN (f : Eg) (n : Nat) (x : En) (g : Eg) (w : World) (e : Ending) (w' : World) : Prop := ∃ y : En, e = .returned (.tuple #[.agg (en y), .int .i64 (n : Int)]) ∧ LaidG w' y f ∧ Below w.heap.size w w' ∧ ∀ U, EnAt w U → FarG U x g → FarG U y f
structure Gp (w : World) (x0 : En) (g0 : Eg) (R : Nat) (W : World) (T : Nat) (x : En) (g : Eg) : Prop where
 s : Gs w W T x g
 r : EnAt W R
 fr : FarG R x g
 ff : ∀ U, EnAt w U → FarG U x0 g0 → FarG U x g
 lr : w.heap.size ≤ R
 ne : R ≠ T
theorem Gp.keep (h : Gp w x0 g0 R W T x g) (b : Below W.heap.size W W') : Gp w x0 g0 R W' T x g := ⟨h.s.keep b, h.r.keep b h.r.lt, h.fr, h.ff, h.lr, h.ne⟩
theorem Gp.at_ (h : Gp w x0 g0 R W T x g) (hU : EnAt w U) : EnAt W U := hU.keep h.s.bw hU.lt
theorem Gp.putK (h : Gp w x0 g0 R W T x g) {s : SlV} {l : List Lk} (hs : SlE Elk W (sv s) l) : Gp w x0 g0 R (W.setCell ⟨T, 6, none⟩ (sv s)) T { x with k := s } { g with k := l } :=
 ⟨h.s.putK hs, zjr _ _ h.ne h.r, h.fr.setK (by obtain ⟨z, hz⟩ := h.r; exact z6y hz hs), fun U hU hf => (h.ff U hU hf).setK ((h.at_ hU).k hs), h.lr, h.ne⟩
theorem Gp.putLate (h : Gp w x0 g0 R W T x g) {s : SlV} {l : List Aa} (hs : SlE Eaa W (sv s) l) : Gp w x0 g0 R (W.setCell ⟨T, 5, none⟩ (sv s)) T { x with late := s } { g with late := l } :=
 ⟨h.s.putLate hs, zjr _ _ h.ne h.r, h.fr.setLate (by obtain ⟨z, hz⟩ := h.r; exact zj9 hz hs), fun U hU hf => (h.ff U hU hf).setLate ((h.at_ hU).late hs), h.lr, h.ne⟩
theorem Gp.putV (h : Gp w x0 g0 R W T x g) {s : SlV} {v : Vt} (hs : SlE Elt W (sv s) v.l) : Gp w x0 g0 R (stA W (.pointer (some ⟨T, 2, none⟩)) (.agg (vo ⟨s, v.out⟩))) T { x with v := ⟨s, v.out⟩ } { g with v := v } :=
 ⟨h.s.putV hs, z6l _ _ h.ne h.r, h.fr.setV (by obtain ⟨z, hz⟩ := h.r; exact z0t hz hs), fun U hU hf => (h.ff U hU hf).setV ((h.at_ hU).v hs), h.lr, h.ne⟩
theorem Gp.putT (h : Gp w x0 g0 R W T x g) {s : SlV} {l : List Nd} (hs : SlE Ene W (sv s) l) : Gp w x0 g0 R (stA W (.pointer (some ⟨T, 0, none⟩)) (.agg (tr ⟨s⟩))) T { x with t := ⟨s⟩ } { g with t := l } :=
 ⟨h.s.putT hs, z6l _ _ h.ne h.r, h.fr.setT (by obtain ⟨z, hz⟩ := h.r; exact yb9 hz hs), fun U hU hf => (h.ff U hU hf).setT ((h.at_ hU).t hs), h.lr, h.ne⟩
theorem Gp.putW (h : Gp w x0 g0 R W T x g) {s : SlV} {l : List UInt64} {base : Nat} (ho : OwnE Enum W base (sv s) l) (h1 : R < base) (h2 : T < base) : Gp w x0 g0 R (W.setCell ⟨T, 4, none⟩ (sv s)) T { x with w := s } { g with w := l } :=
 ⟨h.s.putW (zak ho) (zk9 ho h2), zjr _ _ h.ne h.r, h.fr.setW (zk9 ho h1), fun U hU hf => (h.ff U hU hf).setW (zk9 ho (Nat.lt_of_lt_of_le hU.lt (Nat.le_trans h.lr (Nat.le_of_lt h1)))), h.lr, h.ne⟩
theorem Gp.putJ (h : Gp w x0 g0 R W T x g) {s : SlV} {l : List Ck} {base : Nat} (ho : OwnE Ecc W base (sv s) l) (h1 : R < base) (h2 : T < base) : Gp w x0 g0 R (W.setCell ⟨T, 7, none⟩ (sv s)) T { x with j := s } { g with j := l } :=
 ⟨h.s.putJ (zak ho) (zk9 ho h2), zjr _ _ h.ne h.r, h.fr.setJ (zk9 ho h1), fun U hU hf => (h.ff U hU hf).setJ (zk9 ho (Nat.lt_of_lt_of_le hU.lt (Nat.le_trans h.lr (Nat.le_of_lt h1)))), h.lr, h.ne⟩
theorem Gp.putFin (h : Gp w x0 g0 R W T x g) (c : Ck) : Gp w x0 g0 R (stA W (.pointer (some ⟨T, 8, none⟩)) (.agg (cc c))) T { x with fin := c } { g with fin := c } :=
 ⟨h.s.putFin c, z6l _ _ h.ne h.r, h.fr.setFin c, fun U hU hf => (h.ff U hU hf).setFin c, h.lr, h.ne⟩
theorem Gp.putNow (h : Gp w x0 g0 R W T x g) (n : UInt64) : Gp w x0 g0 R (W.setCell ⟨T, 41, none⟩ (.int .u64 (n.toNat : Int))) T { x with now := n } { g with now := n } :=
 ⟨h.s.putNow n, zjr _ _ h.ne h.r, h.fr.setNow n, fun U hU hf => (h.ff U hU hf).setNow n, h.lr, h.ne⟩
theorem Gp.putAll (h : Gp w x0 g0 R W T x g) {y : En} {g' : Eg} (hs : LaidG W y g') (hT : FarG T y g') (hR : FarG R y g') (hf : ∀ U, EnAt w U → FarG U x0 g0 → FarG U y g') : Gp w x0 g0 R (stA W (.pointer (some ⟨T, 0, none⟩)) (.agg (en y))) T y g' :=
 ⟨h.s.putAll hs hT, z6l _ _ h.ne h.r, hR, hf, h.lr, h.ne⟩
theorem zfx (h : LaidG w x g) (hB : Below w.heap.size w W) (hT : W.heap[T]? = some (.cells (en x) 39 (0, 0))) (hR : EnAt W R) (lT : w.heap.size ≤ T) (lR : w.heap.size ≤ R) (hn : R ≠ T) : Gp w x g R W T x g :=
 ⟨⟨hT, h.keep hB, hB, z7c h lT, lT⟩, hR, z7c h lR, fun _ _ hf => hf, lR, hn⟩
theorem Gp.lR (h : Gp w x0 g0 R W T x g) : R < W.heap.size := h.r.lt
theorem Gp.lT (h : Gp w x0 g0 R W T x g) : T < W.heap.size := h.s.v.lt
theorem Gp.ret (h : Gp w x0 g0 R W T x g) (n : Nat) : EgErN g n x0 g0 w (.returned (.tuple #[.agg (en x), .int .i64 (n : Int)])) (stA W (.pointer (some ⟨R, 0, none⟩)) (.agg (en x))) :=
 ⟨x, rfl, h.s.l.put h.fr (zd1 _ _) (zb1 _ _), zav h.s.bw h.lr, h.ff⟩
theorem Gp.wrR (h : Gp w x0 g0 R W T x g) : wrA W (.pointer (some ⟨R, 0, none⟩)) 42 = true := by
 obtain ⟨z, hz⟩ := h.r
 exact za8 hz (zas z)
theorem Gp.out (h : Gp w x0 g0 R W T x g) : ldA (stA W (.pointer (some ⟨R, 0, none⟩)) (.agg (en x))) (.pointer (some ⟨R, 0, none⟩)) 42 = some (en x) := by
 obtain ⟨z, hz⟩ := h.r
 exact zaf (zby hz (by rw [zas, zas])) (zas x)
theorem Gp.retAll (h : Gp w x0 g0 R W T x g) {y : En} {g' : Eg} (n : Nat) (hs : LaidG W y g') (hR : FarG R y g') (hf : ∀ U, EnAt w U → FarG U x0 g0 → FarG U y g') : EgErN g' n x0 g0 w (.returned (.tuple #[.agg (en y), .int .i64 (n : Int)])) (stA W (.pointer (some ⟨R, 0, none⟩)) (.agg (en y))) :=
 ⟨y, rfl, hs.put hR (zd1 _ _) (zb1 _ _), zav h.s.bw h.lr, hf⟩
theorem Gp.outAll (h : Gp w x0 g0 R W T x g) (y : En) : ldA (stA W (.pointer (some ⟨R, 0, none⟩)) (.agg (en y))) (.pointer (some ⟨R, 0, none⟩)) 42 = some (en y) := by
 obtain ⟨z, hz⟩ := h.r
 exact zaf (zby hz (by rw [zas, zas])) (zas y)
end
open Go.RowKit
section
variable {α : Type} {E : Lie α}
theorem zxi {w : World} {base g n cap : Nat} {l : List α} (h : OwnE E w base (.slice (some ⟨g, 0, none⟩) n cap) l) (hn : l.length = n) {i : Nat} (hi : i < n) (y : α) {r : Array Value} (hr : r.toList = E.enc y) : OwnE E (stA w (.pointer (some ⟨g, i * E.n, none⟩)) (.agg r)) base (.slice (some ⟨g, 0, none⟩) n cap) (l.set i y) := by
 subst hn
 unfold OwnE at h ⊢
 obtain ⟨_, h2⟩ := h
 rcases h2 with ⟨e, _⟩ | ⟨g', cap', cur, e, hb, hg, hc, hm, hs, ht⟩
 ·
  cases e
 ·
  injection e with e1 _ e3
  injection e1 with e1
  injection e1 with e1
  subst e1 e3
  have hsz : r.size = E.n := by rw [← Array.length_toList, hr, E.len]
  have hmul : (i + 1) * E.n ≤ l.length * E.n := Nat.mul_le_mul hi (Nat.le_refl _)
  have hcap : l.length * E.n ≤ cap * E.n := Nat.mul_le_mul hc (Nat.le_refl _)
  have hsucc : (i + 1) * E.n = i * E.n + E.n := Nat.succ_mul _ _
  have hfit : i * E.n + r.size ≤ cur.size := by omega
  refine ⟨by rw [zbd], .inr ⟨g, cap, zax cur (i * E.n) r, by rw [List.length_set], hb, zbu hg hfit, by rw [List.length_set]; exact hc, hm, by rw [zso hfit, hs], ?_⟩⟩
  have h1 : (zan E (l.take i)).length = i * E.n := by rw [zbd, List.length_take, Nat.min_eq_left (by omega)]
  have h3 : (E.enc l[i]).length = E.n := E.len _
  have ht' := ht
  rw [zo3 l hi] at ht'
  have t1 : cur.toList.take (i * E.n) = zan E (l.take i) := by
   have := congrArg (List.take (i * E.n)) ht'
   rw [List.take_take, Nat.min_eq_left (by omega), List.take_left' h1] at this
   exact this
  have t2 : (cur.toList.drop (i * E.n + E.n)).take (l.length * E.n - (i * E.n + E.n)) = zan E (l.drop (i + 1)) := by
   have := congrArg (List.drop (i * E.n + E.n)) ht'
   rw [List.drop_take, ← List.append_assoc, List.drop_left' (by rw [List.length_append, h1, h3])] at this
   exact this
  rw [List.length_set, zvp l hi]
  unfold zax
  rw [hsz, hr, t1]
  have e4 : (zan E (l.take i) ++ E.enc y).length = i * E.n + E.n := by rw [List.length_append, h1, E.len]
  rw [← List.append_assoc, List.toList_toArray, List.take_append, e4, List.take_of_length_le (by rw [e4]; omega), t2, List.append_assoc]
end
open Go.RowKit
theorem zk6 {α : Type} {E : Lie α} {W : World} {B b : Nat} {v : Value} {l : List α} (h : OwnE E W B v l) (hb : v.ownBlock = some b) : ∃ c, W.heap[b]? = some (.cells c E.t (0, 0)) := by
 rcases h.2 with ⟨rfl, _⟩ | ⟨g, cap, cur, rfl, _, hg, _⟩
 ·
  cases hb
 ·
  have e : g = b := by injection hb
  subst e
  exact ⟨cur, hg⟩
theorem zh5 {α β : Type} {E : Lie α} {F : Lie β} {W : World} {B C : Nat} {v u : Value} {l : List α} {m : List β} (h : OwnE E W B v l) (k : OwnE F W C u m) (ne : E.t ≠ F.t) : ∀ b, v.ownBlock = some b → u.ownBlock ≠ some b := fun b hb hu => by
 obtain ⟨c, hc⟩ := zk6 h hb
 obtain ⟨d, hd⟩ := zk6 k hu
 rw [hc] at hd
 injection hd with hd
 injection hd with _ hd
 exact ne hd
theorem zji {α : Type} {E : Lie α} {W : World} {B T : Nat} {s : SlV} {l : List α} (h : OwnE E W B (sv s) l) (ne : E.t ≠ 39) (hT : EnAt W T) : FarE T s l := .inr fun e => by
 obtain ⟨c, hc⟩ := zk6 h e
 obtain ⟨z, hz⟩ := hT
 rw [hc] at hz
 injection hz with hz
 injection hz with _ hz
 exact ne hz
theorem zs9 : (Ene.t ≠ 39 ∧ Enum.t ≠ 39 ∧ Elt.t ≠ 39 ∧ Eaa.t ≠ 39 ∧ Elk.t ≠ 39 ∧ Ecc.t ≠ 39) := by decide +kernel
theorem ymz : (Enum.t ≠ Ene.t ∧ Enum.t ≠ Elt.t ∧ Enum.t ≠ Eaa.t ∧ Enum.t ≠ Elk.t ∧ Enum.t ≠ Ecc.t) := by decide +kernel
theorem yjc : (Elk.t ≠ Ene.t ∧ Elk.t ≠ Elt.t ∧ Elk.t ≠ Eaa.t ∧ Elk.t ≠ Enum.t ∧ Elk.t ≠ Ecc.t) := by decide +kernel
theorem ysv : (Ecc.t ≠ Ene.t ∧ Ecc.t ≠ Elt.t ∧ Ecc.t ≠ Eaa.t ∧ Ecc.t ≠ Enum.t ∧ Ecc.t ≠ Elk.t) := by decide +kernel
structure OwnG (W : World) (B : Nat) (x : En) (g : Eg) : Prop where
 t : OwnE Ene W B (sv x.t.n) g.t
 bal : OwnE Enum W B (sv x.bal) g.bal
 v : OwnE Elt W B (sv x.v.l) g.v.l
 w : OwnE Enum W B (sv x.w) g.w
 late : OwnE Eaa W B (sv x.late) g.late
 k : OwnE Elk W B (sv x.k) g.k
 j : OwnE Ecc W B (sv x.j) g.j
 out : x.v.out = g.v.out
 fin : x.fin = g.fin
 now : x.now = g.now
 sep : ∀ b, (sv x.w).ownBlock = some b → (sv x.bal).ownBlock ≠ some b
section
variable {W W' : World} {B U : Nat} {x : En} {g : Eg}
theorem OwnG.laid (h : OwnG W B x g) : LaidG W x g := ⟨zak h.t, zak h.bal, zak h.v, zak h.w, zak h.late, zak h.k, zak h.j, h.out, h.fin, h.now⟩
theorem OwnG.keep (h : OwnG W B x g) (b : Below W.heap.size W W') : OwnG W' B x g := ⟨zah b h.t, zah b h.bal, zah b h.v, zah b h.w, zah b h.late, zah b h.k, zah b h.j, h.out, h.fin, h.now, h.sep⟩
theorem OwnG.far (h : OwnG W B x g) (hU : EnAt W U) : FarG U x g :=
 ⟨zji h.t zs9.1 hU, zji h.bal zs9.2.1 hU, zji h.v zs9.2.2.1 hU, zji h.w zs9.2.1 hU, zji h.late zs9.2.2.2.1 hU, zji h.k zs9.2.2.2.2.1 hU, zji h.j zs9.2.2.2.2.2 hU⟩
theorem OwnG.base {C : Nat} (h : OwnG W B x g) (hC : C ≤ B) : OwnG W C x g := ⟨zbi h.t hC, zbi h.bal hC, zbi h.v hC, zbi h.w hC, zbi h.late hC, zbi h.k hC, zbi h.j hC, h.out, h.fin, h.now, h.sep⟩
end
def EgErB (f : Eg) (n B : Nat) (w : World) (e : Ending) (w' : World) : Prop := ∃ y : En, e = .returned (.tuple #[.agg (en y), .int .i64 (n : Int)]) ∧ LaidG w' y f ∧ Below B w w' ∧ ∀ U, EnAt w U → FarG U y f ∧ w'.heap[U]? = w.heap[U]?
theorem EgErN.b {f : Eg} {n B : Nat} {x : En} {g : Eg} {w w' : World} {e : Ending} (h : EgErN f n x g w e w') (hB : B ≤ w.heap.size) (hf : ∀ U, EnAt w U → FarG U x g) : EgErB f n B w e w' := by
 obtain ⟨y, h1, h2, h3, h4⟩ := h
 exact ⟨y, h1, h2, h3.mono hB, fun U hU => ⟨h4 U hU (hf U hU), h3.block U hU.lt⟩⟩
theorem EgErB.er {f : Eg} {n : Nat} {w w' : World} {e : Ending} (h : EgErB f n w.heap.size w e w') : EgEr f n w e w' := by
 obtain ⟨y, h1, h2, h3, _⟩ := h
 exact ⟨y, h1, h2, h3⟩
section
variable {w W w3 : World} {B T R : Nat} {x0 x y : En} {g0 g G : Eg}
theorem Gp.eb (A : Gp w x0 g0 R W T x g) (hB : B ≤ w.heap.size) (ly : LaidG w3 y G) (gg : Below B W w3) (fy : ∀ U, EnAt W U → FarG U y G ∧ w3.heap[U]? = W.heap[U]?) (n : Nat) :
  EgErB G n B w (.returned (.tuple #[.agg (en y), .int .i64 (n : Int)])) (stA w3 (.pointer (some ⟨R, 0, none⟩)) (.agg (en y))) :=
 ⟨y, rfl, ly.put (fy R A.r).1 (zd1 _ _) (zb1 _ _), zav ((A.s.bw.mono hB).trans gg) (Nat.le_trans hB A.lr),
  fun U hU => ⟨(fy U (A.at_ hU)).1, (zb1 _ _ U (fun e => by have := hU.lt; have := A.lr; omega)).trans ((fy U (A.at_ hU)).2.trans (A.s.bw.block U hU.lt))⟩⟩
theorem Gp.ebw (A : Gp w x0 g0 R W T x g) (fy : ∀ U, EnAt W U → FarG U y G ∧ w3.heap[U]? = W.heap[U]?) : wrA w3 (.pointer (some ⟨R, 0, none⟩)) 42 = true := by
 obtain ⟨z, hz⟩ := A.r
 exact za8 ((fy R A.r).2.trans hz) (zas z)
theorem Gp.ebo (A : Gp w x0 g0 R W T x g) (fy : ∀ U, EnAt W U → FarG U y G ∧ w3.heap[U]? = W.heap[U]?) : ldA (stA w3 (.pointer (some ⟨R, 0, none⟩)) (.agg (en y))) (.pointer (some ⟨R, 0, none⟩)) 42 = some (en y) := by
 obtain ⟨z, hz⟩ := A.r
 exact zaf (zby ((fy R A.r).2.trans hz) (by rw [zas, zas])) (zas y)
end
theorem KneB : zll Tryz.prog Ene 26 56 := ⟨Tryz.underlying26, .agg (ne zne), ysu, by show ((ne zne)).size = _; exact zow _⟩
theorem z7v (p : Option Addr) (n cap : Nat) (w : World) : (binOp .eql 26 (.slice p n cap) (.slice none 0 0)).run Tryz.prog w = .ok (.bool p.isNone) w := by
 have h := run_equalIn_slice_nil (P := Tryz.prog) w 9999 26 57 p n cap Tryz.underlying26
 simp [binOp, Op.equal, Op.maxDepth, h]
def yvc (l : List Nd) (w : World) (e : Ending) (w' : World) : Prop := ∃ v, e = .returned v ∧ OwnE Ene w' w.heap.size v l ∧ Below w.heap.size w w'
theorem yhm (p : Option Addr) (n cap : Nat) (l : List Nd) (w : World) (h : SlE Ene w (.slice p n cap) l) (hl : l.length = n) (hn : n * 56 ≤ 140737488355328) :
  Calls Tryz.prog 108 #[.slice p n cap] w (yvc l w) := by
 have HS := Lib.hid h
 have HL := Lib.hid hl
 have HN := Lib.hid hn
 cases p with
 | none =>
  have hn0 : l = [] := by
   obtain ⟨p, cap', e, _, h⟩ := h
   injection e with e
   subst e
   exact h.resolve_right (fun ⟨_, _, e, _⟩ => by cases e)
  have e : n = 0 := by rw [← hl, hn0]; rfl
  subst hn0 e
  clear HS h hl hn
  have he : ∀ w, (binOp .eql 26 (.slice none 0 cap) (.slice none 0 0)).run Tryz.prog w = .ok (.bool true) w := fun w => z7v none 0 cap w
  go_enter Tryz.func108, Tryz.ntmps108
  go_wp2_with fail
  go_ret
  exact ⟨_, rfl, zbv _ _ _, Below.refl _ _⟩
 | some a =>
  have HO : Hid (OwnE Ene (w.alloc (.cells #[] 57)) w.heap.size (.slice (some ⟨w.heap.size, 0, none⟩) 0 0) []) := zk1 (E := Ene) w [] 0 rfl (by simp [maxLen]) #[] rfl _ rfl
  have HB : Hid (Below w.heap.size w (w.alloc (.cells #[] 57))) := below1
  clear h hl hn
  have he : ∀ w, (binOp .eql 26 (.slice (some a) n cap) (.slice none 0 0)).run Tryz.prog w = .ok (.bool false) w := fun w => z7v (some a) n cap w
  go_enter Tryz.func108, Tryz.ntmps108
  go_wp2_with (at_builtin; refine zc1 KneB _ rfl (.tmp 5) (.tmp 6) rfl w.heap.size _ [] rfl HO.out _ l rfl (zac HB.out HS.out) (by have := HL.out; have := HN.out; simp [maxLen]; omega) (by have := HL.out; have := HN.out; simp; omega) (by simp) ?_; intro v2 w2 ho2 hg2)
  go_ret
  exact ⟨_, rfl, by simpa using ho2, HB.out.trans (hg2.own HO.out (by simp))⟩
theorem z44 (s : SlV) (l : List Nd) (w : World) (h : SlE Ene w (sv s) l) (hn : l.length * 56 ≤ 140737488355328) :
  Calls Tryz.prog 108 #[sv s] w (yvc l w) := by
 have hs := zdm h
 obtain ⟨p, n, cl⟩ := s
 exact yhm p n cl l w h hs (by dsimp only at hs; omega)
theorem z56 (p : Option Addr) (n cap : Nat) (w : World) : (binOp .eql 29 (.slice p n cap) (.slice none 0 0)).run Tryz.prog w = .ok (.bool p.isNone) w := by
 have h := run_equalIn_slice_nil (P := Tryz.prog) w 9999 29 108 p n cap Tryz.underlying29
 simp [binOp, Op.equal, Op.maxDepth, h]
theorem KltB : zll Tryz.prog Elt 29 48 := ⟨Tryz.underlying29, .agg (lt zlt), yfu, by show ((lt zlt)).size = _; exact ztg _⟩
def yvq (l : List Lt) (w : World) (e : Ending) (w' : World) : Prop := ∃ v, e = .returned v ∧ OwnE Elt w' w.heap.size v l ∧ Below w.heap.size w w'
theorem yhi (p : Option Addr) (n cap : Nat) (l : List Lt) (w : World) (h : SlE Elt w (.slice p n cap) l) (hl : l.length = n) (hn : n * 48 ≤ 140737488355328) :
  Calls Tryz.prog 109 #[.slice p n cap] w (yvq l w) := by
 have HS := Lib.hid h
 have HL := Lib.hid hl
 have HN := Lib.hid hn
 cases p with
 | none =>
  have hn0 : l = [] := by
   obtain ⟨p, cap', e, _, h⟩ := h
   injection e with e
   subst e
   exact h.resolve_right (fun ⟨_, _, e, _⟩ => by cases e)
  have e : n = 0 := by rw [← hl, hn0]; rfl
  subst hn0 e
  clear HS h hl hn
  have he : ∀ w, (binOp .eql 29 (.slice none 0 cap) (.slice none 0 0)).run Tryz.prog w = .ok (.bool true) w := fun w => z56 none 0 cap w
  go_enter Tryz.func109, Tryz.ntmps109
  go_wp2_with fail
  go_ret
  exact ⟨_, rfl, zbv _ _ _, Below.refl _ _⟩
 | some a =>
  have HO : Hid (OwnE Elt (w.alloc (.cells #[] 108)) w.heap.size (.slice (some ⟨w.heap.size, 0, none⟩) 0 0) []) := zk1 (E := Elt) w [] 0 rfl (by simp [maxLen]) #[] rfl _ rfl
  have HB : Hid (Below w.heap.size w (w.alloc (.cells #[] 108))) := below1
  clear h hl hn
  have he : ∀ w, (binOp .eql 29 (.slice (some a) n cap) (.slice none 0 0)).run Tryz.prog w = .ok (.bool false) w := fun w => z56 (some a) n cap w
  go_enter Tryz.func109, Tryz.ntmps109
  go_wp2_with (at_builtin; refine zc1 KltB _ rfl (.tmp 5) (.tmp 6) rfl w.heap.size _ [] rfl HO.out _ l rfl (zac HB.out HS.out) (by have := HL.out; have := HN.out; simp [maxLen]; omega) (by have := HL.out; have := HN.out; simp; omega) (by simp) ?_; intro v2 w2 ho2 hg2)
  go_ret
  exact ⟨_, rfl, by simpa using ho2, HB.out.trans (hg2.own HO.out (by simp))⟩
theorem yc0 (v : Value) (l : List Lt) (w : World) (h : SlE Elt w v l) (hn : l.length * 48 ≤ 140737488355328) :
  Calls Tryz.prog 109 #[v] w (yvq l w) := by
 have k := h
 obtain ⟨p, cl, rfl, _⟩ := zaj h
 exact yhi p _ cl l w k rfl hn
def yxv (v : Vt) (w : World) (e : Ending) (w' : World) : Prop := ∃ s : SlV, e = .returned (.agg (vo ⟨s, v.out⟩)) ∧ OwnE Elt w' w.heap.size (sv s) v.l ∧ Below w.heap.size w w'
theorem zil {α : Type} {E : Lie α} {w : World} {base : Nat} {v : Value} {l : List α} (h : OwnE E w base v l) : ∃ s : SlV, v = sv s := by
 obtain ⟨p, c, rfl, _⟩ := zaj (zak h)
 exact ⟨⟨p, _, c⟩, rfl⟩
theorem zu8 (s : SlV) (v : Vt) (w : World) (h : SlE Elt w (sv s) v.l) (hn : v.l.length ≤ 1000) :
  Calls Tryz.prog 140 #[.agg (vo ⟨s, v.out⟩)] w (yxv v w) := by
 obtain ⟨W0, hW0⟩ : ∃ W0, W0 = (w.alloc (.cells (vo ⟨s, v.out⟩) 32)).alloc (.cells (vo zvo) 32) := ⟨_, rfl⟩
 obtain ⟨hB, hM, hR, hZ⟩ := zd0 w _ _ _ _ W0 hW0
 have HC := Lib.hid (yc0 (sv s) v.l W0 (zac hB h) (by omega))
 have B0 := Lib.hid hB
 have M0 : Hid (W0.heap[w.heap.size]? = some (.cells (vo ⟨s, v.out⟩) 32 (0, 0))) := hM
 have R0 : Hid (W0.heap[w.heap.size + 1]? = some (.cells (vo zvo) 32 (0, 0))) := hR
 have HW := Lib.hid hW0
 have Z0 : Hid (W0.heap.size = w.heap.size + 2) := hZ
 obtain ⟨z0, z1, z2, zl⟩ := zbn hM
 dsimp only at z0
 clear hB hM hR hW0 h hn hZ
 go_enter Tryz.func140, Tryz.ntmps140
 go_upto_region 1 with fail
 rw [← HW.out]
 go_wp2_with fail
 refine HC.out.mono ?_
 rintro e w1 ⟨y, rfl, ho, g⟩
 obtain ⟨⟨p2, n2, c2⟩, rfl⟩ := zil ho
 rw [zat] at ho ⊢
 have O1 := Lib.hid ho
 have B1 := Lib.hid (zad B0.out g)
 have hM1 := zab g M0.out
 have hR1 := zab g R0.out
 have f0 := frozen_of_row w1 w.heap.size 0 _ _ hM1
 have hM2 : (w1.setCell ⟨w.heap.size, 0, none⟩ (.slice p2 n2 c2)).heap[w.heap.size]? = some (.cells (vo ⟨⟨p2, n2, c2⟩, v.out⟩) 32 (0, 0)) := by
  have := zaq hM1 0 (.slice p2 n2 c2)
  rwa [yf4] at this
 have hR2 : (w1.setCell ⟨w.heap.size, 0, none⟩ (.slice p2 n2 c2)).heap[w.heap.size + 1]? = some (.cells (vo zvo) 32 (0, 0)) := by
  rw [Below.heap_setCell _ _ _ _ (show w.heap.size + 1 ≠ w.heap.size by omega)]; exact hR1
 have hO2 : OwnE Elt (w1.setCell ⟨w.heap.size, 0, none⟩ (.slice p2 n2 c2)) W0.heap.size (.slice p2 n2 c2) v.l := zyh ho (by rw [Z0.out]; omega) _
 have hB2 : Below w.heap.size w (w1.setCell ⟨w.heap.size, 0, none⟩ (.slice p2 n2 c2)) := B1.out.setCell (p := ⟨w.heap.size, 0, none⟩) (Nat.le_refl _) _
 have M2 := Lib.hid hM2
 have R2 := Lib.hid hR2
 have O2 := Lib.hid hO2
 have B2 := Lib.hid hB2
 obtain ⟨y0, y1, y2, yl⟩ := zbn hM1
 dsimp only at y0
 clear z0 z1 z2 zl ho g hM1 hR1 hM2 hR2 hO2 hB2
 go_upto_region 2 with fail
 obtain ⟨w2, hw2⟩ : ∃ w2, w2 = w1.setCell ⟨w.heap.size, 0, none⟩ (.slice p2 n2 c2) := ⟨_, rfl⟩
 rw [← hw2] at M2 R2 O2 B2 ⊢
 have k1 := (zbn M2.out).2.2.1
 have k2 := za8 R2.out (zaz _)
 clear hw2 y0 y1 y2 yl f0
 go_wp2_with fail
 exact bodyPost_ret (zcf Tryz.isAgg32 Tryz.sizeOf32 _ 2 rfl _ _ _ _ rfl (zaf (zby R2.out (by rw [zaz, zaz])) (zaz _))) rfl
  ⟨⟨p2, n2, c2⟩, rfl, zbi (zd7 O2.out (by rw [Z0.out]; omega)) (by rw [Z0.out]; omega), zav B2.out (by omega)⟩
theorem z6q (p : Option Addr) (n cap : Nat) (w : World) : (binOp .eql 33 (.slice p n cap) (.slice none 0 0)).run Tryz.prog w = .ok (.bool p.isNone) w := by
 have h := run_equalIn_slice_nil (P := Tryz.prog) w 9999 33 62 p n cap Tryz.underlying33
 simp [binOp, Op.equal, Op.maxDepth, h]
def yvg (l : List Aa) (w : World) (e : Ending) (w' : World) : Prop := ∃ v, e = .returned v ∧ OwnE Eaa w' w.heap.size v l ∧ Below w.heap.size w w'
theorem z1o (p : Option Addr) (n cap : Nat) (l : List Aa) (w : World) (h : SlE Eaa w (.slice p n cap) l) (hl : l.length = n) (hn : n * 128 ≤ 140737488355328) :
  Calls Tryz.prog 110 #[.slice p n cap] w (yvg l w) := by
 have HS := Lib.hid h
 have HL := Lib.hid hl
 have HN := Lib.hid hn
 cases p with
 | none =>
  have hn0 : l = [] := by
   obtain ⟨p, cap', e, _, h⟩ := h
   injection e with e
   subst e
   exact h.resolve_right (fun ⟨_, _, e, _⟩ => by cases e)
  have e : n = 0 := by rw [← hl, hn0]; rfl
  subst hn0 e
  clear HS h hl hn
  have he : ∀ w, (binOp .eql 33 (.slice none 0 cap) (.slice none 0 0)).run Tryz.prog w = .ok (.bool true) w := fun w => z6q none 0 cap w
  go_enter Tryz.func110, Tryz.ntmps110
  go_wp2_with fail
  go_ret
  exact ⟨_, rfl, zbv _ _ _, Below.refl _ _⟩
 | some a =>
  have HO : Hid (OwnE Eaa (w.alloc (.cells #[] 62)) w.heap.size (.slice (some ⟨w.heap.size, 0, none⟩) 0 0) []) := zk1 (E := Eaa) w [] 0 rfl (by simp [maxLen]) #[] rfl _ rfl
  have HB : Hid (Below w.heap.size w (w.alloc (.cells #[] 62))) := below1
  clear h hl hn
  have he : ∀ w, (binOp .eql 33 (.slice (some a) n cap) (.slice none 0 0)).run Tryz.prog w = .ok (.bool false) w := fun w => z6q (some a) n cap w
  go_enter Tryz.func110, Tryz.ntmps110
  go_wp2_with (at_builtin; refine zc1 KaaB _ rfl (.tmp 5) (.tmp 6) rfl w.heap.size _ [] rfl HO.out _ l rfl (zac HB.out HS.out) (by have := HL.out; have := HN.out; simp [maxLen]; omega) (by have := HL.out; have := HN.out; simp; omega) (by simp) ?_; intro v2 w2 ho2 hg2)
  go_ret
  exact ⟨_, rfl, by simpa using ho2, HB.out.trans (hg2.own HO.out (by simp))⟩
theorem yse (v : Value) (l : List Aa) (w : World) (h : SlE Eaa w v l) (hn : l.length * 128 ≤ 140737488355328) :
  Calls Tryz.prog 110 #[v] w (yvg l w) := by
 have k := h
 obtain ⟨p, cl, rfl, _⟩ := zaj h
 exact z1o p _ cl l w k rfl hn
theorem z6i (p : Option Addr) (n cap : Nat) (w : World) : (binOp .eql 34 (.slice p n cap) (.slice none 0 0)).run Tryz.prog w = .ok (.bool p.isNone) w := by
 have h := run_equalIn_slice_nil (P := Tryz.prog) w 9999 34 110 p n cap Tryz.underlying34
 simp [binOp, Op.equal, Op.maxDepth, h]
theorem KlkB : zll Tryz.prog Elk 34 88 := ⟨Tryz.underlying34, .agg (lk zlk), z41, by show ((lk zlk)).size = _; exact zio _⟩
def ytr (l : List Lk) (w : World) (e : Ending) (w' : World) : Prop := ∃ v, e = .returned v ∧ OwnE Elk w' w.heap.size v l ∧ Below w.heap.size w w'
theorem yfl (p : Option Addr) (n cap : Nat) (l : List Lk) (w : World) (h : SlE Elk w (.slice p n cap) l) (hl : l.length = n) (hn : n * 88 ≤ 140737488355328) :
  Calls Tryz.prog 111 #[.slice p n cap] w (ytr l w) := by
 have HS := Lib.hid h
 have HL := Lib.hid hl
 have HN := Lib.hid hn
 cases p with
 | none =>
  have hn0 : l = [] := by
   obtain ⟨p, cap', e, _, h⟩ := h
   injection e with e
   subst e
   exact h.resolve_right (fun ⟨_, _, e, _⟩ => by cases e)
  have e : n = 0 := by rw [← hl, hn0]; rfl
  subst hn0 e
  clear HS h hl hn
  have he : ∀ w, (binOp .eql 34 (.slice none 0 cap) (.slice none 0 0)).run Tryz.prog w = .ok (.bool true) w := fun w => z6i none 0 cap w
  go_enter Tryz.func111, Tryz.ntmps111
  go_wp2_with fail
  go_ret
  exact ⟨_, rfl, zbv _ _ _, Below.refl _ _⟩
 | some a =>
  have HO : Hid (OwnE Elk (w.alloc (.cells #[] 110)) w.heap.size (.slice (some ⟨w.heap.size, 0, none⟩) 0 0) []) := zk1 (E := Elk) w [] 0 rfl (by simp [maxLen]) #[] rfl _ rfl
  have HB : Hid (Below w.heap.size w (w.alloc (.cells #[] 110))) := below1
  clear h hl hn
  have he : ∀ w, (binOp .eql 34 (.slice (some a) n cap) (.slice none 0 0)).run Tryz.prog w = .ok (.bool false) w := fun w => z6i (some a) n cap w
  go_enter Tryz.func111, Tryz.ntmps111
  go_wp2_with (at_builtin; refine zc1 KlkB _ rfl (.tmp 5) (.tmp 6) rfl w.heap.size _ [] rfl HO.out _ l rfl (zac HB.out HS.out) (by have := HL.out; have := HN.out; simp [maxLen]; omega) (by have := HL.out; have := HN.out; simp; omega) (by simp) ?_; intro v2 w2 ho2 hg2)
  go_ret
  exact ⟨_, rfl, by simpa using ho2, HB.out.trans (hg2.own HO.out (by simp))⟩
theorem yc7 (v : Value) (l : List Lk) (w : World) (h : SlE Elk w v l) (hn : l.length * 88 ≤ 140737488355328) :
  Calls Tryz.prog 111 #[v] w (ytr l w) := by
 have k := h
 obtain ⟨p, cl, rfl, _⟩ := zaj h
 exact yfl p _ cl l w k rfl hn
theorem z6s (p : Option Addr) (n cap : Nat) (w : World) : (binOp .eql 35 (.slice p n cap) (.slice none 0 0)).run Tryz.prog w = .ok (.bool p.isNone) w := by
 have h := run_equalIn_slice_nil (P := Tryz.prog) w 9999 35 37 p n cap Tryz.underlying35
 simp [binOp, Op.equal, Op.maxDepth, h]
theorem ytm : zll Tryz.prog Ecc 35 40 := ⟨Tryz.underlying35, .agg (cc zcc), yfe, by show ((cc zcc)).size = _; exact za1 _⟩
def yvm (l : List Ck) (w : World) (e : Ending) (w' : World) : Prop := ∃ v, e = .returned v ∧ OwnE Ecc w' w.heap.size v l ∧ Below w.heap.size w w'
theorem yfm (p : Option Addr) (n cap : Nat) (l : List Ck) (w : World) (h : SlE Ecc w (.slice p n cap) l) (hl : l.length = n) (hn : n * 40 ≤ 140737440355328) :
  Calls Tryz.prog 112 #[.slice p n cap] w (yvm l w) := by
 have HS := Lib.hid h
 have HL := Lib.hid hl
 have HN := Lib.hid hn
 cases p with
 | none =>
  have hn0 : l = [] := by
   obtain ⟨p, cap', e, _, h⟩ := h
   injection e with e
   subst e
   exact h.resolve_right (fun ⟨_, _, e, _⟩ => by cases e)
  have e : n = 0 := by rw [← hl, hn0]; rfl
  subst hn0 e
  clear HS h hl hn
  have he : ∀ w, (binOp .eql 35 (.slice none 0 cap) (.slice none 0 0)).run Tryz.prog w = .ok (.bool true) w := fun w => z6s none 0 cap w
  go_enter Tryz.func112, Tryz.ntmps112
  go_wp2_with fail
  go_ret
  exact ⟨_, rfl, zbv _ _ _, Below.refl _ _⟩
 | some a =>
  have HO : Hid (OwnE Ecc (w.alloc (.cells #[] 37)) w.heap.size (.slice (some ⟨w.heap.size, 0, none⟩) 0 0) []) := zk1 (E := Ecc) w [] 0 rfl (by simp [maxLen]) #[] rfl _ rfl
  have HB : Hid (Below w.heap.size w (w.alloc (.cells #[] 37))) := below1
  clear h hl hn
  have he : ∀ w, (binOp .eql 35 (.slice (some a) n cap) (.slice none 0 0)).run Tryz.prog w = .ok (.bool false) w := fun w => z6s (some a) n cap w
  go_enter Tryz.func112, Tryz.ntmps112
  go_wp2_with (at_builtin; refine zc1 ytm _ rfl (.tmp 5) (.tmp 6) rfl w.heap.size _ [] rfl HO.out _ l rfl (zac HB.out HS.out) (by have := HL.out; have := HN.out; simp [maxLen]; omega) (by have := HL.out; have := HN.out; simp; omega) (by simp) ?_; intro v2 w2 ho2 hg2)
  go_ret
  exact ⟨_, rfl, by simpa using ho2, HB.out.trans (hg2.own HO.out (by simp))⟩
theorem ycx (v : Value) (l : List Ck) (w : World) (h : SlE Ecc w v l) (hn : l.length * 40 ≤ 140737440355328) :
  Calls Tryz.prog 112 #[v] w (yvm l w) := by
 have k := h
 obtain ⟨p, cl, rfl, _⟩ := zaj h
 exact yfm p _ cl l w k rfl hn
end Go.Proofs.YtmihlihlpdkdcaaGreat
