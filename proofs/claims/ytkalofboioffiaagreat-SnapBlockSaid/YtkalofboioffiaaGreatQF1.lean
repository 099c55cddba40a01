import Derived.Test.YtkalofboioffiaaGreatQ37
namespace Go.Proofs.YtkalofboioffiaaGreat
open Go.RowKit
set_option maxRecDepth 200000
set_option maxHeartbeats 64000000
open Go.RowKit
section
variable {w W W' : World} {T R U : Nat} {x x0 : En} {g g0 : Eg} {s : SlV}
theorem EnAt.v {l : List Lt} (h : EnAt W U) (hs : SlE Elt W (sv s) l) : FarE U s l := by
 obtain ⟨z, hz⟩ := h
 exact z99 hz hs
theorem EnAt.t {l : List Nd} (h : EnAt W U) (hs : SlE Ene W (sv s) l) : FarE U s l := by
 obtain ⟨z, hz⟩ := h
 exact z98 hz hs
def EgErN (f : Eg) (n : Nat) (x : En) (g : Eg) (w : World) (e : Ending) (w' : World) : Prop := ∃ y : En, e = .returned (.tuple #[.agg (en y), .int .i64 (n : Int)]) ∧ LaidG w' y f ∧ Below w.heap.size w w' ∧ ∀ U, EnAt w U → FarG U x g → FarG U y f
structure Gp (w : World) (x0 : En) (g0 : Eg) (R : Nat) (W : World) (T : Nat) (x : En) (g : Eg) : Prop where
 s : Gs w W T x g
 r : EnAt W R
 fr : FarG R x g
 ff : ∀ U, EnAt w U → FarG U x0 g0 → FarG U x g
 lr : w.heap.size ≤ R
 ne : R ≠ T
theorem Gp.keep (h : Gp w x0 g0 R W T x g) (b : Below W.heap.size W W') : Gp w x0 g0 R W' T x g := ⟨h.s.keep b, h.r.keep b h.r.lt, h.fr, h.ff, h.lr, h.ne⟩
theorem Gp.at_ (h : Gp w x0 g0 R W T x g) (hU : EnAt w U) : EnAt W U := hU.keep h.s.bw hU.lt
theorem Gp.putV (h : Gp w x0 g0 R W T x g) {s : SlV} {v : Vt} (hs : SlE Elt W (sv s) v.l) : Gp w x0 g0 R (stA W (.pointer (some ⟨T, 2, none⟩)) (.agg (vo ⟨s, v.out⟩))) T { x with v := ⟨s, v.out⟩ } { g with v := v } :=
 ⟨h.s.putV hs, yke _ _ h.ne h.r, h.fr.setV (by obtain ⟨z, hz⟩ := h.r; exact z99 hz hs), fun U hU hf => (h.ff U hU hf).setV ((h.at_ hU).v hs), h.lr, h.ne⟩
theorem Gp.putT (h : Gp w x0 g0 R W T x g) {s : SlV} {l : List Nd} (hs : SlE Ene W (sv s) l) : Gp w x0 g0 R (stA W (.pointer (some ⟨T, 0, none⟩)) (.agg (tr ⟨s⟩))) T { x with t := ⟨s⟩ } { g with t := l } :=
 ⟨h.s.putT hs, yke _ _ h.ne h.r, h.fr.setT (by obtain ⟨z, hz⟩ := h.r; exact z98 hz hs), fun U hU hf => (h.ff U hU hf).setT ((h.at_ hU).t hs), h.lr, h.ne⟩
theorem Gp.putW (h : Gp w x0 g0 R W T x g) {s : SlV} {l : List UInt64} {base : Nat} (ho : OwnE Enum W base (sv s) l) (h1 : R < base) (h2 : T < base) : Gp w x0 g0 R (W.setCell ⟨T, 4, none⟩ (sv s)) T { x with w := s } { g with w := l } :=
 ⟨h.s.putW (zat ho) (zuu ho h2), zv4 _ _ h.ne h.r, h.fr.setW (zuu ho h1), fun U hU hf => (h.ff U hU hf).setW (zuu ho (Nat.lt_of_lt_of_le hU.lt (Nat.le_trans h.lr (Nat.le_of_lt h1)))), h.lr, h.ne⟩
theorem zlc (h : LaidG w x g) (hB : Below w.heap.size w W) (hT : W.heap[T]? = some (.cells (en x) 38 (0, 0))) (hR : EnAt W R) (lT : w.heap.size ≤ T) (lR : w.heap.size ≤ R) (hn : R ≠ T) : Gp w x g R W T x g :=
 ⟨⟨hT, h.keep hB, hB, z3k h lT, lT⟩, hR, z3k h lR, fun _ _ hf => hf, lR, hn⟩
theorem Gp.lR (h : Gp w x0 g0 R W T x g) : R < W.heap.size := h.r.lt
theorem Gp.lT (h : Gp w x0 g0 R W T x g) : T < W.heap.size := h.s.v.lt
theorem Gp.ret (h : Gp w x0 g0 R W T x g) (n : Nat) : EgErN g n x0 g0 w (.returned (.tuple #[.agg (en x), .int .i64 (n : Int)])) (stA W (.pointer (some ⟨R, 0, none⟩)) (.agg (en x))) :=
 ⟨x, rfl, h.s.l.put h.fr (zfd _ _) (zcq _ _), zap h.s.bw h.lr, h.ff⟩
theorem Gp.wrR (h : Gp w x0 g0 R W T x g) : wrA W (.pointer (some ⟨R, 0, none⟩)) 42 = true := by
 obtain ⟨z, hz⟩ := h.r
 exact za0 hz (zbc z)
theorem Gp.out (h : Gp w x0 g0 R W T x g) : ldA (stA W (.pointer (some ⟨R, 0, none⟩)) (.agg (en x))) (.pointer (some ⟨R, 0, none⟩)) 42 = some (en x) := by
 obtain ⟨z, hz⟩ := h.r
 exact zag (zc4 hz (by rw [zbc, zbc])) (zbc x)
theorem Gp.outAll (h : Gp w x0 g0 R W T x g) (y : En) : ldA (stA W (.pointer (some ⟨R, 0, none⟩)) (.agg (en y))) (.pointer (some ⟨R, 0, none⟩)) 42 = some (en y) := by
 obtain ⟨z, hz⟩ := h.r
 exact zag (zc4 hz (by rw [zbc, zbc])) (zbc y)
end
open Go.RowKit
theorem zjd {α : Type} {E : Lie α} {W : World} {B b : Nat} {v : Value} {l : List α} (h : OwnE E W B v l) (hb : v.ownBlock = some b) : ∃ c, W.heap[b]? = some (.cells c E.t (0, 0)) := by
 rcases h.2 with ⟨rfl, _⟩ | ⟨g, cap, cur, rfl, _, hg, _⟩
 ·
  cases hb
 ·
  have e : g = b := by injection hb
  subst e
  exact ⟨cur, hg⟩
theorem zgy {α β : Type} {E : Lie α} {F : Lie β} {W : World} {B C : Nat} {v u : Value} {l : List α} {m : List β} (h : OwnE E W B v l) (k : OwnE F W C u m) (ne : E.t ≠ F.t) : ∀ b, v.ownBlock = some b → u.ownBlock ≠ some b := fun b hb hu => by
 obtain ⟨c, hc⟩ := zjd h hb
 obtain ⟨d, hd⟩ := zjd k hu
 rw [hc] at hd
 injection hd with hd
 injection hd with _ hd
 exact ne hd
theorem zip {α : Type} {E : Lie α} {W : World} {B T : Nat} {s : SlV} {l : List α} (h : OwnE E W B (sv s) l) (ne : E.t ≠ 38) (hT : EnAt W T) : FarE T s l := .inr fun e => by
 obtain ⟨c, hc⟩ := zjd h e
 obtain ⟨z, hz⟩ := hT
 rw [hc] at hz
 injection hz with hz
 injection hz with _ hz
 exact ne hz
theorem zrh : (Ene.t ≠ 38 ∧ Enum.t ≠ 38 ∧ Elt.t ≠ 38 ∧ Eaa.t ≠ 38 ∧ Elk.t ≠ 38 ∧ Ecc.t ≠ 38) := by decide +kernel
theorem yiq : (Enum.t ≠ Ene.t ∧ Enum.t ≠ Elt.t ∧ Enum.t ≠ Eaa.t ∧ Enum.t ≠ Elk.t ∧ Enum.t ≠ Ecc.t) := by decide +kernel
theorem yip : (Elk.t ≠ Ene.t ∧ Elk.t ≠ Elt.t ∧ Elk.t ≠ Eaa.t ∧ Elk.t ≠ Enum.t ∧ Elk.t ≠ Ecc.t) := by decide +kernel
theorem yoa : (Ecc.t ≠ Ene.t ∧ Ecc.t ≠ Elt.t ∧ Ecc.t ≠ Eaa.t ∧ Ecc.t ≠ Enum.t ∧ Ecc.t ≠ Elk.t) := by decide +kernel
structure OwnG (W : World) (B : Nat) (x : En) (g : Eg) : Prop where
 t : OwnE Ene W B (sv x.t.n) g.t
 bal : OwnE Enum W B (sv x.bal) g.bal
 v : OwnE Elt W B (sv x.v.l) g.v.l
 w : OwnE Enum W B (sv x.w) g.w
 late : OwnE Eaa W B (sv x.late) g.late
 k : OwnE Elk W B (sv x.k) g.k
 j : OwnE Ecc W B (sv x.j) g.j
 out : x.v.out = g.v.out
 fin : x.fin = g.fin
 now : x.now = g.now
 sep : ∀ b, (sv x.w).ownBlock = some b → (sv x.bal).ownBlock ≠ some b
section
variable {W W' : World} {B U : Nat} {x : En} {g : Eg}
theorem OwnG.laid (h : OwnG W B x g) : LaidG W x g := ⟨zat h.t, zat h.bal, zat h.v, zat h.w, zat h.late, zat h.k, zat h.j, h.out, h.fin, h.now⟩
theorem OwnG.keep (h : OwnG W B x g) (b : Below W.heap.size W W') : OwnG W' B x g := ⟨zam b h.t, zam b h.bal, zam b h.v, zam b h.w, zam b h.late, zam b h.k, zam b h.j, h.out, h.fin, h.now, h.sep⟩
theorem OwnG.far (h : OwnG W B x g) (hU : EnAt W U) : FarG U x g :=
 ⟨zip h.t zrh.1 hU, zip h.bal zrh.2.1 hU, zip h.v zrh.2.2.1 hU, zip h.w zrh.2.1 hU, zip h.late zrh.2.2.2.1 hU, zip h.k zrh.2.2.2.2.1 hU, zip h.j zrh.2.2.2.2.2 hU⟩
theorem OwnG.base {C : Nat} (h : OwnG W B x g) (hC : C ≤ B) : OwnG W C x g := ⟨zbf h.t hC, zbf h.bal hC, zbf h.v hC, zbf h.w hC, zbf h.late hC, zbf h.k hC, zbf h.j hC, h.out, h.fin, h.now, h.sep⟩
end
def EgErB (f : Eg) (n B : Nat) (w : World) (e : Ending) (w' : World) : Prop := ∃ y : En, e = .returned (.tuple #[.agg (en y), .int .i64 (n : Int)]) ∧ LaidG w' y f ∧ Below B w w' ∧ ∀ U, EnAt w U → FarG U y f ∧ w'.heap[U]? = w.heap[U]?
theorem EgErN.b {f : Eg} {n B : Nat} {x : En} {g : Eg} {w w' : World} {e : Ending} (h : EgErN f n x g w e w') (hB : B ≤ w.heap.size) (hf : ∀ U, EnAt w U → FarG U x g) : EgErB f n B w e w' := by
 obtain ⟨y, h1, h2, h3, h4⟩ := h
 exact ⟨y, h1, h2, h3.mono hB, fun U hU => ⟨h4 U hU (hf U hU), h3.block U hU.lt⟩⟩
theorem EgErB.er {f : Eg} {n : Nat} {w w' : World} {e : Ending} (h : EgErB f n w.heap.size w e w') : EgEr f n w e w' := by
 obtain ⟨y, h1, h2, h3, _⟩ := h
 exact ⟨y, h1, h2, h3⟩
section
variable {w W w3 : World} {B T R : Nat} {x0 x y : En} {g0 g G : Eg}
theorem Gp.eb (A : Gp w x0 g0 R W T x g) (hB : B ≤ w.heap.size) (ly : LaidG w3 y G) (gg : Below B W w3) (fy : ∀ U, EnAt W U → FarG U y G ∧ w3.heap[U]? = W.heap[U]?) (n : Nat) :
  EgErB G n B w (.returned (.tuple #[.agg (en y), .int .i64 (n : Int)])) (stA w3 (.pointer (some ⟨R, 0, none⟩)) (.agg (en y))) :=
 ⟨y, rfl, ly.put (fy R A.r).1 (zfd _ _) (zcq _ _), zap ((A.s.bw.mono hB).trans gg) (Nat.le_trans hB A.lr),
  fun U hU => ⟨(fy U (A.at_ hU)).1, (zcq _ _ U (fun e => by have := hU.lt; have := A.lr; omega)).trans ((fy U (A.at_ hU)).2.trans (A.s.bw.block U hU.lt))⟩⟩
theorem Gp.ebw (A : Gp w x0 g0 R W T x g) (fy : ∀ U, EnAt W U → FarG U y G ∧ w3.heap[U]? = W.heap[U]?) : wrA w3 (.pointer (some ⟨R, 0, none⟩)) 42 = true := by
 obtain ⟨z, hz⟩ := A.r
 exact za0 ((fy R A.r).2.trans hz) (zbc z)
theorem Gp.ebo (A : Gp w x0 g0 R W T x g) (fy : ∀ U, EnAt W U → FarG U y G ∧ w3.heap[U]? = W.heap[U]?) : ldA (stA w3 (.pointer (some ⟨R, 0, none⟩)) (.agg (en y))) (.pointer (some ⟨R, 0, none⟩)) 42 = some (en y) := by
 obtain ⟨z, hz⟩ := A.r
 exact zag (zc4 ((fy R A.r).2.trans hz) (by rw [zbc, zbc])) (zbc y)
end
theorem z3d (p : Option Addr) (n cap : Nat) (w : World) : (binOp .eql 30 (.slice p n cap) (.slice none 0 0)).run Tryz.prog w = .ok (.bool p.isNone) w := by
 have h := run_equalIn_slice_nil (P := Tryz.prog) w 9999 30 113 p n cap Tryz.underlying30
 simp [binOp, Op.equal, Op.maxDepth, h]
def you (l : List Aa) (w : World) (e : Ending) (w' : World) : Prop := ∃ v, e = .returned v ∧ OwnE Eaa w' w.heap.size v l ∧ Below w.heap.size w w'
theorem z9e (p : Option Addr) (n cap : Nat) (l : List Aa) (w : World) (h : SlE Eaa w (.slice p n cap) l) (hl : l.length = n) (hn : n * 128 ≤ 140737488355328) :
  Calls Tryz.prog 135 #[.slice p n cap] w (you l w) := by
 have HS := Lib.hid h
 have HL := Lib.hid hl
 have HN := Lib.hid hn
 cases p with
 | none =>
  have hn0 : l = [] := by
   obtain ⟨p, cap', e, _, h⟩ := h
   injection e with e
   subst e
   exact h.resolve_right (fun ⟨_, _, e, _⟩ => by cases e)
  have e : n = 0 := by rw [← hl, hn0]; rfl
  subst hn0 e
  clear HS h hl hn
  have he : ∀ w, (binOp .eql 30 (.slice none 0 cap) (.slice none 0 0)).run Tryz.prog w = .ok (.bool true) w := fun w => z3d none 0 cap w
  go_enter Tryz.func135, Tryz.ntmps135
  go_wp2_with fail
  go_ret
  exact ⟨_, rfl, zb3 _ _ _, Below.refl _ _⟩
 | some a =>
  have HO : Hid (OwnE Eaa (w.alloc (.cells #[] 113)) w.heap.size (.slice (some ⟨w.heap.size, 0, none⟩) 0 0) []) := zjc (E := Eaa) w [] 0 rfl (by simp [maxLen]) #[] rfl _ rfl
  have HB : Hid (Below w.heap.size w (w.alloc (.cells #[] 113))) := below1
  clear h hl hn
  have he : ∀ w, (binOp .eql 30 (.slice (some a) n cap) (.slice none 0 0)).run Tryz.prog w = .ok (.bool false) w := fun w => z3d (some a) n cap w
  go_enter Tryz.func135, Tryz.ntmps135
  go_wp2_with (at_builtin; refine zc1 KaaB _ rfl (.tmp 5) (.tmp 6) rfl w.heap.size _ [] rfl HO.out _ l rfl (zad HB.out HS.out) (by have := HL.out; have := HN.out; simp [maxLen]; omega) (by have := HL.out; have := HN.out; simp; omega) (by simp) ?_; intro v2 w2 ho2 hg2)
  go_ret
  exact ⟨_, rfl, by simpa using ho2, HB.out.trans (hg2.own HO.out (by simp))⟩
theorem yk7 (v : Value) (l : List Aa) (w : World) (h : SlE Eaa w v l) (hn : l.length * 128 ≤ 140737488355328) :
  Calls Tryz.prog 135 #[v] w (you l w) := by
 have k := h
 obtain ⟨p, cl, rfl, _⟩ := zar h
 exact z9e p _ cl l w k rfl hn
theorem z3f (p : Option Addr) (n cap : Nat) (w : World) : (binOp .eql 31 (.slice p n cap) (.slice none 0 0)).run Tryz.prog w = .ok (.bool p.isNone) w := by
 have h := run_equalIn_slice_nil (P := Tryz.prog) w 9999 31 118 p n cap Tryz.underlying31
 simp [binOp, Op.equal, Op.maxDepth, h]
theorem KlkB : zjp Tryz.prog Elk 31 88 := ⟨Tryz.underlying31, .agg (lk zlk), z0v, by show ((lk zlk)).size = _; exact zhk _⟩
def yow (l : List Lk) (w : World) (e : Ending) (w' : World) : Prop := ∃ v, e = .returned v ∧ OwnE Elk w' w.heap.size v l ∧ Below w.heap.size w w'
theorem z9h (p : Option Addr) (n cap : Nat) (l : List Lk) (w : World) (h : SlE Elk w (.slice p n cap) l) (hl : l.length = n) (hn : n * 88 ≤ 140737488355328) :
  Calls Tryz.prog 136 #[.slice p n cap] w (yow l w) := by
 have HS := Lib.hid h
 have HL := Lib.hid hl
 have HN := Lib.hid hn
 cases p with
 | none =>
  have hn0 : l = [] := by
   obtain ⟨p, cap', e, _, h⟩ := h
   injection e with e
   subst e
   exact h.resolve_right (fun ⟨_, _, e, _⟩ => by cases e)
  have e : n = 0 := by rw [← hl, hn0]; rfl
  subst hn0 e
  clear HS h hl hn
  have he : ∀ w, (binOp .eql 31 (.slice none 0 cap) (.slice none 0 0)).run Tryz.prog w = .ok (.bool true) w := fun w => z3f none 0 cap w
  go_enter Tryz.func136, Tryz.ntmps136
  go_wp2_with fail
  go_ret
  exact ⟨_, rfl, zb3 _ _ _, Below.refl _ _⟩
 | some a =>
  have HO : Hid (OwnE Elk (w.alloc (.cells #[] 118)) w.heap.size (.slice (some ⟨w.heap.size, 0, none⟩) 0 0) []) := zjc (E := Elk) w [] 0 rfl (by simp [maxLen]) #[] rfl _ rfl
  have HB : Hid (Below w.heap.size w (w.alloc (.cells #[] 118))) := below1
  clear h hl hn
  have he : ∀ w, (binOp .eql 31 (.slice (some a) n cap) (.slice none 0 0)).run Tryz.prog w = .ok (.bool false) w := fun w => z3f (some a) n cap w
  go_enter Tryz.func136, Tryz.ntmps136
  go_wp2_with (at_builtin; refine zc1 KlkB _ rfl (.tmp 5) (.tmp 6) rfl w.heap.size _ [] rfl HO.out _ l rfl (zad HB.out HS.out) (by have := HL.out; have := HN.out; simp [maxLen]; omega) (by have := HL.out; have := HN.out; simp; omega) (by simp) ?_; intro v2 w2 ho2 hg2)
  go_ret
  exact ⟨_, rfl, by simpa using ho2, HB.out.trans (hg2.own HO.out (by simp))⟩
theorem yk8 (v : Value) (l : List Lk) (w : World) (h : SlE Elk w v l) (hn : l.length * 88 ≤ 140737488355328) :
  Calls Tryz.prog 136 #[v] w (yow l w) := by
 have k := h
 obtain ⟨p, cl, rfl, _⟩ := zar h
 exact z9h p _ cl l w k rfl hn
theorem zbp {α : Type} {E : Lie α} {W : World} {B T o : Nat} {v : Value} {l : List α} (h : OwnE E W B v l) (hT : T < B) (y : Value) : OwnE E (W.setCell ⟨T, o, none⟩ y) B v l := zos h hT y
def ysk (g : Eg) (w : World) (e : Ending) (w' : World) : Prop := ∃ y : En, e = .returned (.agg (en y)) ∧ OwnG w' w.heap.size y g ∧ Below w.heap.size w w'
theorem z65 (x : En) (g : Eg) (w : World) (h : LaidG w x g) (sg : zcv g) :
  Calls Tryz.prog 98 #[.agg (en x)] w (ysk g w) := by
 obtain ⟨W0, hW0⟩ : ∃ W0, W0 = (w.alloc (.cells (en x) 38)).alloc (.cells (en zen) 38) := ⟨_, rfl⟩
 obtain ⟨hB, q0, q1, hZ⟩ := zdb w _ _ _ _ W0 hW0
 have HW := Lib.hid hW0
 have HL := Lib.hid h
 have HSg := Lib.hid sg
 obtain ⟨T, hT⟩ : ∃ T, T = w.heap.size := ⟨_, rfl⟩
 obtain ⟨R, hR⟩ : ∃ R, R = w.heap.size + 1 := ⟨_, rfl⟩
 have HTR : Hid ((T = w.heap.size ∧ R = w.heap.size + 1) ∧ W0.heap.size = w.heap.size + 2) := ⟨⟨hT, hR⟩, hZ⟩
 have X : Hid (W0.heap[T]? = some (.cells (en x) 38 (0, 0))) := by show _ = _; rw [hT]; exact q0
 have Y : Hid (W0.heap[R]? = some (.cells (en zen) 38 (0, 0))) := by show _ = _; rw [hR]; exact q1
 have BW : Hid (Below w.heap.size w W0) := hB
 have HO : Hid (x.v.out = g.v.out ∧ x.fin = g.fin ∧ x.now = g.now) := ⟨h.out, h.fin, h.now⟩
 have HZ0 : Hid (W0.heap.size ≤ W0.heap.size) := Nat.le_refl _
 clear hW0 hB q0 q1 hZ h sg
 go_enter Tryz.func98, Tryz.ntmps98
 go_upto_region 1 with fail
 rw [← HW.out, ← hR, ← hT]
 clear hT hR HW
 have HC1 := Lib.hid (zua x.t.n g.t W0 (zad BW.out HL.out.t) (by have := HSg.out.t; omega))
 have zc := zmq X.out
 try dsimp only at zc
 go_wp2_with fail
 refine HC1.out.mono ?_
 rintro e u1 ⟨y1, rfl, ho, gg⟩
 obtain ⟨s1, rfl⟩ := zho ho
 have zc2 := zmq (zab gg X.out)
 try dsimp only at zc2
 have fz := frozen_of_row u1 T 0 _ _ (zab gg X.out)
 have HT1 : Hid (T < W0.heap.size) := (Array.getElem?_eq_some_iff.1 X.out).1
 have HR1 : Hid (R < W0.heap.size) := (Array.getElem?_eq_some_iff.1 Y.out).1
 obtain ⟨⟨p1, n1, c1⟩, hs1⟩ : ∃ s : SlV, s = s1 := ⟨_, rfl⟩
 rw [← hs1, za7]
 clear zc
 go_upto_region 2 with fail
 obtain ⟨w1, hw1⟩ : ∃ W : World, W = u1.setCell ⟨T, 0, none⟩ (.slice p1 n1 c1) := ⟨_, rfl⟩
 rw [← hw1]
 have hv : (Value.slice p1 n1 c1) = sv s1 := by rw [← hs1]; rfl
 rw [hv] at hw1
 have X2 : Hid (w1.heap[T]? = some (.cells (en ({ x with t := ⟨s1⟩ } : En)) 38 (0, 0))) := by
  show _ = _
  rw [hw1, za4 (zab gg X.out) 0 (sv s1), z5q]
 have Y2 : Hid (w1.heap[R]? = some (.cells (en zen) 38 (0, 0))) := by
  show _ = _
  rw [hw1, Below.heap_setCell _ _ _ _ (show R ≠ T by have := HTR.out; omega)]; exact zab gg Y.out
 have BW2 : Hid (Below w.heap.size w w1) := by show Below _ _ _; rw [hw1]; exact (zac BW.out gg).setCell (p := ⟨T, 0, none⟩) (Nat.le_of_eq HTR.out.1.1.symm) _
 have O1 : Hid (OwnE Ene w1 W0.heap.size (sv s1) g.t) := by show OwnE _ _ _ _ _; rw [hw1]; exact zbp ho HT1.out _
 have HZ1 : Hid (W0.heap.size ≤ w1.heap.size) := by show _ ≤ _; rw [hw1]; exact Nat.le_trans (Nat.le_trans HZ0.out gg.size) (zcm _ _)
 replace X := Lib.hid X2.out
 replace Y := Lib.hid Y2.out
 replace BW := Lib.hid BW2.out
 clear X2 Y2 BW2 zc2 fz hv hs1 hw1 gg ho HC1
 have HC2 := Lib.hid (zga (sv x.bal) g.bal w1 (zad BW.out HL.out.bal) (by have := HSg.out.bal; omega))
 have zc := zmp X.out
 try dsimp only at zc
 go_wp2_with fail
 refine HC2.out.mono ?_
 rintro e u2 ⟨y2, rfl, ho, gg⟩
 obtain ⟨s2, rfl⟩ := zho ho
 have zc2 := zmp (zab gg X.out)
 try dsimp only at zc2
 have fz := frozen_of_row u2 T 1 _ _ (zab gg X.out)
 have HT2 : Hid (T < w1.heap.size) := (Array.getElem?_eq_some_iff.1 X.out).1
 have HR2 : Hid (R < w1.heap.size) := (Array.getElem?_eq_some_iff.1 Y.out).1
 obtain ⟨⟨p2, n2, c2⟩, hs2⟩ : ∃ s : SlV, s = s2 := ⟨_, rfl⟩
 rw [← hs2, za7]
 clear zc
 go_upto_region 3 with fail
 obtain ⟨w2, hw2⟩ : ∃ W : World, W = u2.setCell ⟨T, 1, none⟩ (.slice p2 n2 c2) := ⟨_, rfl⟩
 rw [← hw2]
 have hv : (Value.slice p2 n2 c2) = sv s2 := by rw [← hs2]; rfl
 rw [hv] at hw2
 have X2 : Hid (w2.heap[T]? = some (.cells (en ({ x with t := ⟨s1⟩, bal := s2 } : En)) 38 (0, 0))) := by
  show _ = _
  rw [hw2, za4 (zab gg X.out) 1 (sv s2), z5p]
 have Y2 : Hid (w2.heap[R]? = some (.cells (en zen) 38 (0, 0))) := by
  show _ = _
  rw [hw2, Below.heap_setCell _ _ _ _ (show R ≠ T by have := HTR.out; omega)]; exact zab gg Y.out
 have BW2 : Hid (Below w.heap.size w w2) := by show Below _ _ _; rw [hw2]; exact (zac BW.out gg).setCell (p := ⟨T, 1, none⟩) (Nat.le_of_eq HTR.out.1.1.symm) _
 have O2 : Hid (OwnE Enum w2 w1.heap.size (sv s2) g.bal) := by show OwnE _ _ _ _ _; rw [hw2]; exact zbp ho HT2.out _
 replace O1 : Hid (OwnE Ene w2 W0.heap.size (sv s1) g.t) := by show OwnE _ _ _ _ _; rw [hw2]; exact zbp (zam gg O1.out) HT1.out _
 have HZ2 : Hid (W0.heap.size ≤ w2.heap.size) := by show _ ≤ _; rw [hw2]; exact Nat.le_trans (Nat.le_trans HZ1.out gg.size) (zcm _ _)
 replace X := Lib.hid X2.out
 replace Y := Lib.hid Y2.out
 replace BW := Lib.hid BW2.out
 clear X2 Y2 BW2 zc2 fz hv hs2 hw2 gg ho HC2
 have HC3 := Lib.hid (z9i (sv x.v.l) g.v.l w2 (zad BW.out HL.out.v) (by have := HSg.out.v; omega))
 have zc := zmr X.out
 try dsimp only at zc
 go_wp2_with fail
 refine HC3.out.mono ?_
 rintro e u3 ⟨y3, rfl, ho, gg⟩
 obtain ⟨s3, rfl⟩ := zho ho
 have zc2 := zmr (zab gg X.out)
 try dsimp only at zc2
 have fz := frozen_of_row u3 T 2 _ _ (zab gg X.out)
 have HT3 : Hid (T < w2.heap.size) := (Array.getElem?_eq_some_iff.1 X.out).1
 have HR3 : Hid (R < w2.heap.size) := (Array.getElem?_eq_some_iff.1 Y.out).1
 obtain ⟨⟨p3, n3, c3⟩, hs3⟩ : ∃ s : SlV, s = s3 := ⟨_, rfl⟩
 rw [← hs3, za7]
 clear zc
 go_upto_region 4 with fail
 obtain ⟨w3, hw3⟩ : ∃ W : World, W = u3.setCell ⟨T, 2, none⟩ (.slice p3 n3 c3) := ⟨_, rfl⟩
 rw [← hw3]
 have hv : (Value.slice p3 n3 c3) = sv s3 := by rw [← hs3]; rfl
 rw [hv] at hw3
 have X2 : Hid (w3.heap[T]? = some (.cells (en ({ x with t := ⟨s1⟩, bal := s2, v := ⟨s3, x.v.out⟩ } : En)) 38 (0, 0))) := by
  show _ = _
  rw [hw3, za4 (zab gg X.out) 2 (sv s3), z5r]
 have Y2 : Hid (w3.heap[R]? = some (.cells (en zen) 38 (0, 0))) := by
  show _ = _
  rw [hw3, Below.heap_setCell _ _ _ _ (show R ≠ T by have := HTR.out; omega)]; exact zab gg Y.out
 have BW2 : Hid (Below w.heap.size w w3) := by show Below _ _ _; rw [hw3]; exact (zac BW.out gg).setCell (p := ⟨T, 2, none⟩) (Nat.le_of_eq HTR.out.1.1.symm) _
 have O3 : Hid (OwnE Elt w3 w2.heap.size (sv s3) g.v.l) := by show OwnE _ _ _ _ _; rw [hw3]; exact zbp ho HT3.out _
 replace O1 : Hid (OwnE Ene w3 W0.heap.size (sv s1) g.t) := by show OwnE _ _ _ _ _; rw [hw3]; exact zbp (zam gg O1.out) HT1.out _
 replace O2 : Hid (OwnE Enum w3 w1.heap.size (sv s2) g.bal) := by show OwnE _ _ _ _ _; rw [hw3]; exact zbp (zam gg O2.out) HT2.out _
 have HZ3 : Hid (W0.heap.size ≤ w3.heap.size) := by show _ ≤ _; rw [hw3]; exact Nat.le_trans (Nat.le_trans HZ2.out gg.size) (zcm _ _)
 replace X := Lib.hid X2.out
 replace Y := Lib.hid Y2.out
 replace BW := Lib.hid BW2.out
 clear X2 Y2 BW2 zc2 fz hv hs3 hw3 gg ho HC3
 have HS2 : Hid (∀ b, (sv s2).ownBlock = some b → b < w3.heap.size) := fun b hb => (zbi O2.out hb).2
 have HC4 := Lib.hid (zga (sv x.w) g.w w3 (zad BW.out HL.out.w) (by have := HSg.out.w; omega))
 have zc := zoj X.out
 try dsimp only at zc
 go_wp2_with fail
 refine HC4.out.mono ?_
 rintro e u4 ⟨y4, rfl, ho, gg⟩
 obtain ⟨s4, rfl⟩ := zho ho
 have zc2 := zoj (zab gg X.out)
 try dsimp only at zc2
 have fz := frozen_of_row u4 T 4 _ _ (zab gg X.out)
 have HT4 : Hid (T < w3.heap.size) := (Array.getElem?_eq_some_iff.1 X.out).1
 have HR4 : Hid (R < w3.heap.size) := (Array.getElem?_eq_some_iff.1 Y.out).1
 obtain ⟨⟨p4, n4, c4⟩, hs4⟩ : ∃ s : SlV, s = s4 := ⟨_, rfl⟩
 rw [← hs4, za7]
 clear zc
 go_upto_region 5 with fail
 obtain ⟨w4, hw4⟩ : ∃ W : World, W = u4.setCell ⟨T, 4, none⟩ (.slice p4 n4 c4) := ⟨_, rfl⟩
 rw [← hw4]
 have hv : (Value.slice p4 n4 c4) = sv s4 := by rw [← hs4]; rfl
 rw [hv] at hw4
 have X2 : Hid (w4.heap[T]? = some (.cells (en ({ x with t := ⟨s1⟩, bal := s2, v := ⟨s3, x.v.out⟩, w := s4 } : En)) 38 (0, 0))) := by
  show _ = _
  rw [hw4, za4 (zab gg X.out) 4 (sv s4), zun]
 have Y2 : Hid (w4.heap[R]? = some (.cells (en zen) 38 (0, 0))) := by
  show _ = _
  rw [hw4, Below.heap_setCell _ _ _ _ (show R ≠ T by have := HTR.out; omega)]; exact zab gg Y.out
 have BW2 : Hid (Below w.heap.size w w4) := by show Below _ _ _; rw [hw4]; exact (zac BW.out gg).setCell (p := ⟨T, 4, none⟩) (Nat.le_of_eq HTR.out.1.1.symm) _
 have O4 : Hid (OwnE Enum w4 w3.heap.size (sv s4) g.w) := by show OwnE _ _ _ _ _; rw [hw4]; exact zbp ho HT4.out _
 replace O1 : Hid (OwnE Ene w4 W0.heap.size (sv s1) g.t) := by show OwnE _ _ _ _ _; rw [hw4]; exact zbp (zam gg O1.out) HT1.out _
 replace O2 : Hid (OwnE Enum w4 w1.heap.size (sv s2) g.bal) := by show OwnE _ _ _ _ _; rw [hw4]; exact zbp (zam gg O2.out) HT2.out _
 replace O3 : Hid (OwnE Elt w4 w2.heap.size (sv s3) g.v.l) := by show OwnE _ _ _ _ _; rw [hw4]; exact zbp (zam gg O3.out) HT3.out _
 have HSepP : Hid (∀ b, (sv s4).ownBlock = some b → (sv s2).ownBlock ≠ some b) := fun b hb h2 => by
  have h3 := (zbi O4.out hb).1
  have h4 := HS2.out b h2
  omega
 have HZ4 : Hid (W0.heap.size ≤ w4.heap.size) := by show _ ≤ _; rw [hw4]; exact Nat.le_trans (Nat.le_trans HZ3.out gg.size) (zcm _ _)
 replace X := Lib.hid X2.out
 replace Y := Lib.hid Y2.out
 replace BW := Lib.hid BW2.out
 clear X2 Y2 BW2 zc2 fz hv hs4 hw4 gg ho HC4
 have HC5 := Lib.hid (yk7 (sv x.late) g.late w4 (zad BW.out HL.out.late) (by have := HSg.out.late; omega))
 have zc := zka X.out
 try dsimp only at zc
 go_wp2_with fail
 refine HC5.out.mono ?_
 rintro e u5 ⟨y5, rfl, ho, gg⟩
 obtain ⟨s5, rfl⟩ := zho ho
 have zc2 := zka (zab gg X.out)
 try dsimp only at zc2
 have fz := frozen_of_row u5 T 5 _ _ (zab gg X.out)
 have HT5 : Hid (T < w4.heap.size) := (Array.getElem?_eq_some_iff.1 X.out).1
 have HR5 : Hid (R < w4.heap.size) := (Array.getElem?_eq_some_iff.1 Y.out).1
 obtain ⟨⟨p5, n5, c5⟩, hs5⟩ : ∃ s : SlV, s = s5 := ⟨_, rfl⟩
 rw [← hs5, za7]
 clear zc
 go_upto_region 6 with fail
 obtain ⟨w5, hw5⟩ : ∃ W : World, W = u5.setCell ⟨T, 5, none⟩ (.slice p5 n5 c5) := ⟨_, rfl⟩
 rw [← hw5]
 have hv : (Value.slice p5 n5 c5) = sv s5 := by rw [← hs5]; rfl
 rw [hv] at hw5
 have X2 : Hid (w5.heap[T]? = some (.cells (en ({ x with t := ⟨s1⟩, bal := s2, v := ⟨s3, x.v.out⟩, w := s4, late := s5 } : En)) 38 (0, 0))) := by
  show _ = _
  rw [hw5, za4 (zab gg X.out) 5 (sv s5), z0l]
 have Y2 : Hid (w5.heap[R]? = some (.cells (en zen) 38 (0, 0))) := by
  show _ = _
  rw [hw5, Below.heap_setCell _ _ _ _ (show R ≠ T by have := HTR.out; omega)]; exact zab gg Y.out
 have BW2 : Hid (Below w.heap.size w w5) := by show Below _ _ _; rw [hw5]; exact (zac BW.out gg).setCell (p := ⟨T, 5, none⟩) (Nat.le_of_eq HTR.out.1.1.symm) _
 have O5 : Hid (OwnE Eaa w5 w4.heap.size (sv s5) g.late) := by show OwnE _ _ _ _ _; rw [hw5]; exact zbp ho HT5.out _
 replace O1 : Hid (OwnE Ene w5 W0.heap.size (sv s1) g.t) := by show OwnE _ _ _ _ _; rw [hw5]; exact zbp (zam gg O1.out) HT1.out _
 replace O2 : Hid (OwnE Enum w5 w1.heap.size (sv s2) g.bal) := by show OwnE _ _ _ _ _; rw [hw5]; exact zbp (zam gg O2.out) HT2.out _
 replace O3 : Hid (OwnE Elt w5 w2.heap.size (sv s3) g.v.l) := by show OwnE _ _ _ _ _; rw [hw5]; exact zbp (zam gg O3.out) HT3.out _
 replace O4 : Hid (OwnE Enum w5 w3.heap.size (sv s4) g.w) := by show OwnE _ _ _ _ _; rw [hw5]; exact zbp (zam gg O4.out) HT4.out _
 have HZ5 : Hid (W0.heap.size ≤ w5.heap.size) := by show _ ≤ _; rw [hw5]; exact Nat.le_trans (Nat.le_trans HZ4.out gg.size) (zcm _ _)
 replace X := Lib.hid X2.out
 replace Y := Lib.hid Y2.out
 replace BW := Lib.hid BW2.out
 clear X2 Y2 BW2 zc2 fz hv hs5 hw5 gg ho HC5
 have HC6 := Lib.hid (yk8 (sv x.k) g.k w5 (zad BW.out HL.out.k) (by have := HSg.out.k; omega))
 have zc := zk1 X.out
 try dsimp only at zc
 go_wp2_with fail
 refine HC6.out.mono ?_
 rintro e u6 ⟨y6, rfl, ho, gg⟩
 obtain ⟨s6, rfl⟩ := zho ho
 have zc2 := zk1 (zab gg X.out)
 try dsimp only at zc2
 have fz := frozen_of_row u6 T 6 _ _ (zab gg X.out)
 have HT6 : Hid (T < w5.heap.size) := (Array.getElem?_eq_some_iff.1 X.out).1
 have HR6 : Hid (R < w5.heap.size) := (Array.getElem?_eq_some_iff.1 Y.out).1
 obtain ⟨⟨p6, n6, c6⟩, hs6⟩ : ∃ s : SlV, s = s6 := ⟨_, rfl⟩
 rw [← hs6, za7]
 clear zc
 go_upto_region 7 with fail
 obtain ⟨w6, hw6⟩ : ∃ W : World, W = u6.setCell ⟨T, 6, none⟩ (.slice p6 n6 c6) := ⟨_, rfl⟩
 rw [← hw6]
 have hv : (Value.slice p6 n6 c6) = sv s6 := by rw [← hs6]; rfl
 rw [hv] at hw6
 have X2 : Hid (w6.heap[T]? = some (.cells (en ({ x with t := ⟨s1⟩, bal := s2, v := ⟨s3, x.v.out⟩, w := s4, late := s5, k := s6 } : En)) 38 (0, 0))) := by
  show _ = _
  rw [hw6, za4 (zab gg X.out) 6 (sv s6), z3c]
 have Y2 : Hid (w6.heap[R]? = some (.cells (en zen) 38 (0, 0))) := by
  show _ = _
  rw [hw6, Below.heap_setCell _ _ _ _ (show R ≠ T by have := HTR.out; omega)]; exact zab gg Y.out
 have BW2 : Hid (Below w.heap.size w w6) := by show Below _ _ _; rw [hw6]; exact (zac BW.out gg).setCell (p := ⟨T, 6, none⟩) (Nat.le_of_eq HTR.out.1.1.symm) _
 have O6 : Hid (OwnE Elk w6 w5.heap.size (sv s6) g.k) := by show OwnE _ _ _ _ _; rw [hw6]; exact zbp ho HT6.out _
 replace O1 : Hid (OwnE Ene w6 W0.heap.size (sv s1) g.t) := by show OwnE _ _ _ _ _; rw [hw6]; exact zbp (zam gg O1.out) HT1.out _
 replace O2 : Hid (OwnE Enum w6 w1.heap.size (sv s2) g.bal) := by show OwnE _ _ _ _ _; rw [hw6]; exact zbp (zam gg O2.out) HT2.out _
 replace O3 : Hid (OwnE Elt w6 w2.heap.size (sv s3) g.v.l) := by show OwnE _ _ _ _ _; rw [hw6]; exact zbp (zam gg O3.out) HT3.out _
 replace O4 : Hid (OwnE Enum w6 w3.heap.size (sv s4) g.w) := by show OwnE _ _ _ _ _; rw [hw6]; exact zbp (zam gg O4.out) HT4.out _
 replace O5 : Hid (OwnE Eaa w6 w4.heap.size (sv s5) g.late) := by show OwnE _ _ _ _ _; rw [hw6]; exact zbp (zam gg O5.out) HT5.out _
 have HZ6 : Hid (W0.heap.size ≤ w6.heap.size) := by show _ ≤ _; rw [hw6]; exact Nat.le_trans (Nat.le_trans HZ5.out gg.size) (zcm _ _)
 replace X := Lib.hid X2.out
 replace Y := Lib.hid Y2.out
 replace BW := Lib.hid BW2.out
 clear X2 Y2 BW2 zc2 fz hv hs6 hw6 gg ho HC6
 have HC7 := Lib.hid (z9f (sv x.j) g.j w6 (zad BW.out HL.out.j) (by have := HSg.out.j; omega))
 have zc := zk0 X.out
 try dsimp only at zc
 go_wp2_with fail
 refine HC7.out.mono ?_
 rintro e u7 ⟨y7, rfl, ho, gg⟩
 obtain ⟨s7, rfl⟩ := zho ho
 have zc2 := zk0 (zab gg X.out)
 try dsimp only at zc2
 have fz := frozen_of_row u7 T 7 _ _ (zab gg X.out)
 have HT7 : Hid (T < w6.heap.size) := (Array.getElem?_eq_some_iff.1 X.out).1
 have HR7 : Hid (R < w6.heap.size) := (Array.getElem?_eq_some_iff.1 Y.out).1
 obtain ⟨⟨p7, n7, c7⟩, hs7⟩ : ∃ s : SlV, s = s7 := ⟨_, rfl⟩
 rw [← hs7, za7]
 clear zc
 go_upto_region 8 with fail
 obtain ⟨w7, hw7⟩ : ∃ W : World, W = u7.setCell ⟨T, 7, none⟩ (.slice p7 n7 c7) := ⟨_, rfl⟩
 rw [← hw7]
 have hv : (Value.slice p7 n7 c7) = sv s7 := by rw [← hs7]; rfl
 rw [hv] at hw7
 have X2 : Hid (w7.heap[T]? = some (.cells (en ({ x with t := ⟨s1⟩, bal := s2, v := ⟨s3, x.v.out⟩, w := s4, late := s5, k := s6, j := s7 } : En)) 38 (0, 0))) := by
  show _ = _
  rw [hw7, za4 (zab gg X.out) 7 (sv s7), z3b]
 have Y2 : Hid (w7.heap[R]? = some (.cells (en zen) 38 (0, 0))) := by
  show _ = _
  rw [hw7, Below.heap_setCell _ _ _ _ (show R ≠ T by have := HTR.out; omega)]; exact zab gg Y.out
 have BW2 : Hid (Below w.heap.size w w7) := by show Below _ _ _; rw [hw7]; exact (zac BW.out gg).setCell (p := ⟨T, 7, none⟩) (Nat.le_of_eq HTR.out.1.1.symm) _
 have O7 : Hid (OwnE Ecc w7 w6.heap.size (sv s7) g.j) := by show OwnE _ _ _ _ _; rw [hw7]; exact zbp ho HT7.out _
 replace O1 : Hid (OwnE Ene w7 W0.heap.size (sv s1) g.t) := by show OwnE _ _ _ _ _; rw [hw7]; exact zbp (zam gg O1.out) HT1.out _
 replace O2 : Hid (OwnE Enum w7 w1.heap.size (sv s2) g.bal) := by show OwnE _ _ _ _ _; rw [hw7]; exact zbp (zam gg O2.out) HT2.out _
 replace O3 : Hid (OwnE Elt w7 w2.heap.size (sv s3) g.v.l) := by show OwnE _ _ _ _ _; rw [hw7]; exact zbp (zam gg O3.out) HT3.out _
 replace O4 : Hid (OwnE Enum w7 w3.heap.size (sv s4) g.w) := by show OwnE _ _ _ _ _; rw [hw7]; exact zbp (zam gg O4.out) HT4.out _
 replace O5 : Hid (OwnE Eaa w7 w4.heap.size (sv s5) g.late) := by show OwnE _ _ _ _ _; rw [hw7]; exact zbp (zam gg O5.out) HT5.out _
 replace O6 : Hid (OwnE Elk w7 w5.heap.size (sv s6) g.k) := by show OwnE _ _ _ _ _; rw [hw7]; exact zbp (zam gg O6.out) HT6.out _
 have HZ7 : Hid (W0.heap.size ≤ w7.heap.size) := by show _ ≤ _; rw [hw7]; exact Nat.le_trans (Nat.le_trans HZ6.out gg.size) (zcm _ _)
 replace X := Lib.hid X2.out
 replace Y := Lib.hid Y2.out
 replace BW := Lib.hid BW2.out
 clear X2 Y2 BW2 zc2 fz hv hs7 hw7 gg ho HC7
 obtain ⟨y, hy⟩ : ∃ y : En, y = ({ x with t := ⟨s1⟩, bal := s2, v := ⟨s3, x.v.out⟩, w := s4, late := s5, k := s6, j := s7 } : En) := ⟨_, rfl⟩
 rw [← hy] at X
 have z := zag X.out (zbc y)
 have wr := za0 Y.out (zbc zen)
 have HSep : Hid (∀ b, (sv s4).ownBlock = some b → (sv s2).ownBlock ≠ some b) := HSepP.out
 have OG : Hid (OwnG w7 W0.heap.size y g) := by
  show OwnG _ _ _ _
  rw [hy]
  exact ⟨O1.out, zbf O2.out HZ1.out, zbf O3.out HZ2.out, zbf O4.out HZ3.out, zbf O5.out HZ4.out, zbf O6.out HZ5.out, zbf O7.out HZ6.out, HO.out.1, HO.out.2.1, HO.out.2.2, HSep.out⟩
 clear hy O1 O2 O3 O4 O5 O6 O7
 go_wp2_with fail
 have HRb : R < W0.heap.size := by have := HTR.out; omega
 have OG2 : OwnG (stA w7 (.pointer (some ⟨R, 0, none⟩)) (.agg (en y))) W0.heap.size y g :=
  ⟨zdp OG.out.t HRb, zdp OG.out.bal HRb, zdp OG.out.v HRb, zdp OG.out.w HRb, zdp OG.out.late HRb, zdp OG.out.k HRb, zdp OG.out.j HRb, OG.out.out, OG.out.fin, OG.out.now, OG.out.sep⟩
 exact bodyPost_ret (zax Tryz.isAgg38 Tryz.sizeOf38 _ 2 rfl _ _ _ _ rfl (zag (zc4 Y.out (by rw [zbc, zbc])) (zbc y))) rfl ⟨y, rfl, OG2.base (by have := HTR.out; omega), zap BW.out (by have := HTR.out; omega)⟩
end Go.Proofs.YtkalofboioffiaaGreat
