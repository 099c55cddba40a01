import Derived.Test.YtkalofboioffiaaGreatQ23
namespace Go.Proofs.YtkalofboioffiaaGreat
open Go.RowKit
set_option maxRecDepth 200000
set_option maxHeartbeats 64000000
theorem z1r {l : List Nd} {k : Nat} (h : k < l.length) : zb7 (l.take (k + 1)) = zb7 (l.take k) ++ [(nd l k).root] := z75 h
theorem zg3 (l : List Nd) : (zb7 l).length = l.length := List.length_map ..
def ykj (L : List Rt) (w : World) (e : Ending) (w' : World) : Prop := ∃ v, e = .returned v ∧ OwnE Ert w' w.heap.size v L ∧ Below w.heap.size w w'
theorem zvy (p : Option Addr) (n cp : Nat) (l : List Nd) (w : World) (h : SlE Ene w (.slice p n cp) l) (hl : l.length = n) (hn : n ≤ 1000) :
  Calls Tryz.prog 90 #[.agg (tr ⟨⟨p, n, cp⟩⟩)] w (ykj (zb7 l) w) := by
 have HS := Lib.hid h
 have HL := Lib.hid hl
 have HN := Lib.hid hn
 obtain ⟨W0, hW0⟩ : ∃ W0, W0 = w.alloc (.cells (tr ⟨⟨p, n, cp⟩⟩) 24) := ⟨_, rfl⟩
 have HB : Hid (Below w.heap.size w W0) := by rw [hW0]; exact below1
 have M0 : Hid (W0.heap[w.heap.size]? = some (.cells (tr ⟨⟨p, n, cp⟩⟩) 24 (0, 0))) := by rw [hW0]; exact heap_alloc_last w _
 have HW := Lib.hid hW0
 clear h hl hn hW0
 go_enter Tryz.func90, Tryz.ntmps90
 go_upto_region 1 with fail
 rw [← HW.out]
 have y0 := (zaw M0.out).1
 dsimp only at y0
 rw [za7] at y0
 go_wp2_with fail
 clear y0
 go_loopw [3, 9] (fun kv i wr => ∃ k : Nat, k ≤ n ∧ i = .int .i64 (k : Int) ∧ OwnE Ert wr W0.heap.size kv (zb7 (l.take k)) ∧ Below W0.heap.size W0 wr) (fun _ i _ => n - (intOf i).toNat)
 case atStart => exact ⟨0, Nat.zero_le _, rfl, zb3 _ _ _, Below.refl _ _⟩
 case round =>
  obtain ⟨k, hk, rfl, ho, hb⟩ := hrel
  have HO := Lib.hid ho
  have HG := Lib.hid hb
  clear ho hb
  by_cases hlt : k < n
  ·
   have HK := Lib.hid hlt
   have i0 : (0 : Int) ≤ (k : Int) := by omega
   have i1 : (k : Int) < (n : Int) := by omega
   have u1 : (k : Int) + 1 < 10000 := by have := HN.out; omega
   obtain ⟨b1, o1, rfl, q1, x1⟩ := zda (zad (zac HB.out HG.out) HS.out) (by rw [HL.out]; omega)
   have y1 := zjv x1 (i := k) (by rw [HL.out]; exact hlt)
   have HTk := Lib.hid (z1r (l := l) (k := k) (by rw [HL.out]; exact hlt))
   have HLk : Hid ((zb7 (l.take k)).length ≤ 1000) := by show _ ≤ _; rw [zg3, List.length_take]; have := HL.out; have := HN.out; omega
   obtain ⟨m, hm⟩ : ∃ m, m = nd l k := ⟨_, rfl⟩
   rw [← hm] at y1 HTk
   clear hlt q1 x1 hm
   go_upto_region 5 with fail
   obtain ⟨V, hV⟩ : ∃ V, V = wr.alloc (.cells (ne m) 63) := ⟨_, rfl⟩
   rw [← hV]
   have g5 : Below wr.heap.size wr V := by rw [hV]; exact below1
   have z1 := zkl (show V.heap[wr.heap.size]? = some (.cells (ne m) 63 (0, 0)) from by rw [hV]; exact heap_alloc_last wr _)
   have HO1 := Lib.hid (zam g5 HO.out)
   have HG1 : Hid (Below W0.heap.size W0 V) := zac HG.out g5
   clear hV g5 y1
   go_wp2_with (at_builtin; refine zbs Krt _ rfl _ (.tmp 16) rfl W0.heap.size _ (zb7 (l.take k)) rfl (zba HO1.out _) _ [m.root] rfl (z1t _ _ _ rfl) (by have := HLk.out; simp; omega) (by have := HG1.out.size; simp; omega) ?_; intro v2 w2 ho2 hg2; have HO2 : Hid (OwnE Ert w2 W0.heap.size v2 (zb7 (l.take (k + 1)))) := (by show OwnE _ _ _ _ _; rw [HTk.out]; exact ho2); have HB2 : Hid (Below W0.heap.size W0 w2) := HG1.out.trans ((Gr.alloc hg2).own HO1.out HG1.out.size); clear ho2 hg2)
   clear z1
   go_roundw
   case rel => exact ⟨k + 1, HK.out, by go_num, HO2.out, HB2.out⟩
   case measure => simp [intOf]; have := HK.out; omega
  ·
   obtain rfl : k = n := by omega
   clear hlt
   have HO2 : OwnE Ert wr W0.heap.size u3 (zb7 l) := by
    have := HO.out
    rwa [← HL.out, List.take_length] at this
   have HR := Lib.hid HO2
   clear HO2
   go_wp2_with fail
   go_ret
   exact ⟨_, rfl, zbf HR.out HB.out.size, zac HB.out HG.out⟩
theorem zq7 (s : SlV) (l : List Nd) (w : World) (h : SlE Ene w (sv s) l) (hn : l.length ≤ 1000) :
  Calls Tryz.prog 90 #[.agg (tr ⟨s⟩)] w (ykj (zb7 l) w) := by
 have hs := zcn h
 obtain ⟨p, n, cp⟩ := s
 dsimp only at hs
 subst hs
 exact zvy p _ cp l w h rfl hn
open Go.RowKit
def FarE {α : Type} (T : Nat) (s : SlV) (l : List α) : Prop := l = [] ∨ (sv s).ownBlock ≠ some T
section
variable {α : Type} {E : Lie α} {W : World} {T : Nat} {s : SlV} {l : List α}
theorem zuu {base : Nat} (h : OwnE E W base (sv s) l) (hT : T < base) : FarE T s l := .inr fun e => by
 have := (h.lt T e).1
 omega
theorem zep {W' : World} (h : SlE E W (sv s) l) (hf : FarE T s l) (hz : W.heap.size ≤ W'.heap.size) (hb : ∀ k, k ≠ T → W'.heap[k]? = W.heap[k]?) : SlE E W' (sv s) l := by
 rcases hf with rfl | hf
 ·
  obtain ⟨p, cap, e, _⟩ := zar h
  rw [e]
  exact zbr _ _ _ _
 ·
  exact zd6 h hz (fun k _ hk => hb k (fun e => hf (by rw [hk, e])))
end
def z31 : Value → Bool
 | .slice _ _ _ => true
 | .int .u64 _ => true
 | .int .u8 _ => true
 | _ => false
theorem ycu (r : Rt) : ∀ v ∈ (rc r).toList, z31 v = true := by
 intro v hv
 obtain ⟨i, hi, rfl⟩ := List.getElem_of_mem hv
 have h1 : i < 32 := by rw [Array.length_toList, zav] at hi; exact hi
 rw [Array.getElem_toList, zm5]; rfl
theorem z84 (c : Ck) : ∀ v ∈ (cc c).toList, z31 v = true := by
 intro v hv
 rw [zby] at hv
 unfold ccL at hv
 simp only [List.mem_append, List.mem_singleton] at hv
 rcases hv with rfl | hv
 ·
  rfl
 ·
  exact ycu _ v hv
theorem z9x (x : En) : ∀ v ∈ enL x, z31 v = true := by
 intro v hv
 unfold enL at hv
 simp only [List.mem_append, List.mem_singleton] at hv
 rcases hv with hv | rfl | hv | rfl | rfl | rfl | rfl | hv | rfl
 ·
  rw [zgq] at hv; unfold trL at hv; simp at hv; subst hv; rfl
 ·
  rfl
 ·
  rw [zrj] at hv; unfold voL at hv; simp at hv; rcases hv with rfl | rfl <;> rfl
 ·
  rfl
 ·
  rfl
 ·
  rfl
 ·
  rfl
 ·
  exact z84 _ v hv
 ·
  rfl
section
variable {α : Type} {E : Lie α} {W : World} {T : Nat} {s : SlV} {l : List α} {x : En}
theorem z3j (hx : W.heap[T]? = some (.cells (en x) 38 (0, 0))) (h : SlE E W (sv s) l) (hbad : 42 < E.n ∨ ∀ a, ∃ (i : Nat) (v : Value), (E.enc a)[i]? = some v ∧ z31 v = false) : FarE T s l := by
 by_cases h0 : l = []
 ·
  exact .inl h0
 refine .inr fun e => ?_
 obtain ⟨b, o, c, e1, _, hb, hr⟩ := zdm h (List.length_pos_iff.2 h0)
 rw [e1] at e
 obtain rfl : b = T := Option.some.inj e
 have hl : 0 < l.length := List.length_pos_iff.2 h0
 have hc : ∀ (i : Nat) (v : Value), (E.enc l[0])[i]? = some v → ∃ q, (en x)[q]? = some v ∧ o + i = q := fun i v hv => by
  have := zpd hr hl hv
  rw [cell_of_row _ _ _ _ _ _ hx, Nat.zero_mul, Nat.add_zero] at this
  exact ⟨_, this, rfl⟩
 rcases hbad with hn | hbad
 ·
  have hi : E.n - 1 < (E.enc l[0]).length := by rw [E.len]; omega
  obtain ⟨q, h1, h2⟩ := hc (E.n - 1) _ (List.getElem?_eq_getElem hi)
  have := (Array.getElem?_eq_some_iff.1 h1).1
  rw [zbc] at this
  omega
 ·
  obtain ⟨i, v, hv, hb⟩ := hbad l[0]
  obtain ⟨q, h1, _⟩ := hc i v hv
  have hm : v ∈ enL x := by
   rw [← z0k]
   exact List.mem_of_getElem? (by rw [Array.getElem?_toList]; exact h1)
  rw [z9x x v hm] at hb
  cases hb
end
section
variable {W : World} {T : Nat} {s : SlV} {x : En}
theorem z99 {l : List Lt} (hx : W.heap[T]? = some (.cells (en x) 38 (0, 0))) (h : SlE Elt W (sv s) l) : FarE T s l := z3j hx h (.inr fun a => ⟨0, .bool a.has, rfl, rfl⟩)
theorem z98 {l : List Nd} (hx : W.heap[T]? = some (.cells (en x) 38 (0, 0))) (h : SlE Ene W (sv s) l) : FarE T s l := z3j hx h (.inr fun a => ⟨32, .int .i64 a.parent, by
 show (neL a)[32]? = _
 unfold neL
 rw [List.getElem?_append_right (by simp [zav])]
 simp [zav], rfl⟩)
end
structure FarG (T : Nat) (x : En) (g : Eg) : Prop where
 t : FarE T x.t.n g.t
 bal : FarE T x.bal g.bal
 v : FarE T x.v.l g.v.l
 w : FarE T x.w g.w
 late : FarE T x.late g.late
 k : FarE T x.k g.k
 j : FarE T x.j g.j
structure Gs (w W : World) (T : Nat) (x : En) (g : Eg) : Prop where
 box : W.heap[T]? = some (.cells (en x) 38 (0, 0))
 l : LaidG W x g
 bw : Below w.heap.size w W
 f : FarG T x g
 lo : w.heap.size ≤ T
section
variable {w W W' : World} {T : Nat} {x : En} {g : Eg}
theorem Gs.v (h : Gs w W T x g) : Gv w W T x g := ⟨h.box, h.l, h.bw⟩
theorem Gs.keep (h : Gs w W T x g) (b : Below W.heap.size W W') : Gs w W' T x g := ⟨zab b h.box, h.l.keep b, zac h.bw b, h.f, h.lo⟩
theorem LaidG.put (h : LaidG W x g) (f : FarG T x g) (hz : W.heap.size ≤ W'.heap.size) (hb : ∀ k, k ≠ T → W'.heap[k]? = W.heap[k]?) : LaidG W' x g :=
 ⟨zep h.t f.t hz hb, zep h.bal f.bal hz hb, zep h.v f.v hz hb, zep h.w f.w hz hb, zep h.late f.late hz hb, zep h.k f.k hz hb, zep h.j f.j hz hb, h.out, h.fin, h.now⟩
theorem zcm (v : Value) (o : Nat) : W.heap.size ≤ (W.setCell ⟨T, o, none⟩ v).heap.size := Nat.le_of_eq (by simp [World.setCell])
theorem zcb (v : Value) (o : Nat) : ∀ k, k ≠ T → (W.setCell ⟨T, o, none⟩ v).heap[k]? = W.heap[k]? := fun _ hk => Below.heap_setCell _ _ _ _ hk
theorem zfd (v : Value) (o : Nat) : W.heap.size ≤ (stA W (.pointer (some ⟨T, o, none⟩)) v).heap.size := by rw [zl0]; exact Nat.le_refl _
theorem zcq (v : Value) (o : Nat) : ∀ k, k ≠ T → (stA W (.pointer (some ⟨T, o, none⟩)) v).heap[k]? = W.heap[k]? := fun _ hk => zdf hk
theorem Gs.putW (h : Gs w W T x g) {s : SlV} {l : List UInt64} (hs : SlE Enum W (sv s) l) (f : FarE T s l) : Gs w (W.setCell ⟨T, 4, none⟩ (sv s)) T { x with w := s } { g with w := l } := by
 have l1 := h.l.put h.f (zcm (sv s) 4) (zcb (sv s) 4)
 refine ⟨by rw [za4 h.box 4 (sv s), zun], ⟨l1.t, l1.bal, l1.v, zep hs f (zcm _ _) (zcb _ _), l1.late, l1.k, l1.j, l1.out, l1.fin, l1.now⟩, h.bw.setCell (p := ⟨T, 4, none⟩) h.lo _, ⟨h.f.t, h.f.bal, h.f.v, f, h.f.late, h.f.k, h.f.j⟩, h.lo⟩
theorem Gs.putV (h : Gs w W T x g) {s : SlV} {v : Vt} (hs : SlE Elt W (sv s) v.l) : Gs w (stA W (.pointer (some ⟨T, 2, none⟩)) (.agg (vo ⟨s, v.out⟩))) T { x with v := ⟨s, v.out⟩ } { g with v := v } := by
 have f := z99 h.box hs
 have l1 := h.l.put h.f (zfd (.agg (vo ⟨s, v.out⟩)) 2) (zcq (.agg (vo ⟨s, v.out⟩)) 2)
 refine ⟨by rw [zbx h.box (by rw [zbv, zbc]; decide), zul], ⟨l1.t, l1.bal, zep hs f (zfd _ _) (zcq _ _), l1.w, l1.late, l1.k, l1.j, rfl, l1.fin, l1.now⟩, zap h.bw h.lo, ⟨h.f.t, h.f.bal, f, h.f.w, h.f.late, h.f.k, h.f.j⟩, h.lo⟩
theorem Gs.putT (h : Gs w W T x g) {s : SlV} {l : List Nd} (hs : SlE Ene W (sv s) l) : Gs w (stA W (.pointer (some ⟨T, 0, none⟩)) (.agg (tr ⟨s⟩))) T { x with t := ⟨s⟩ } { g with t := l } := by
 have f := z98 h.box hs
 have l1 := h.l.put h.f (zfd (.agg (tr ⟨s⟩)) 0) (zcq (.agg (tr ⟨s⟩)) 0)
 refine ⟨by rw [zbx h.box (by rw [za9, zbc]; decide), zuk], ⟨zep hs f (zfd _ _) (zcq _ _), l1.bal, l1.v, l1.w, l1.late, l1.k, l1.j, l1.out, l1.fin, l1.now⟩, zap h.bw h.lo, ⟨f, h.f.bal, h.f.v, h.f.w, h.f.late, h.f.k, h.f.j⟩, h.lo⟩
theorem Gs.wr (h : Gs w W T x g) (o n : Nat) (hn : o + n ≤ 42) : wrA W (.pointer (some ⟨T, o, none⟩)) n = true := yd6 h.box (by rw [zbc]; exact hn)
theorem Gs.fz (h : Gs w W T x g) (o : Nat) : W.frozen? ⟨T, o, none⟩ = false := frozen_of_row W T o _ _ h.box
end
section
variable {w W W' : World} {T R U : Nat} {x x0 : En} {g g0 : Eg} {s : SlV}
theorem FarG.setK {l : List Lk} (f : FarG U x g) (h : FarE U s l) : FarG U { x with k := s } { g with k := l } := ⟨f.t, f.bal, f.v, f.w, f.late, h, f.j⟩
theorem FarG.setW {l : List UInt64} (f : FarG U x g) (h : FarE U s l) : FarG U { x with w := s } { g with w := l } := ⟨f.t, f.bal, f.v, h, f.late, f.k, f.j⟩
theorem FarG.setJ {l : List Ck} (f : FarG U x g) (h : FarE U s l) : FarG U { x with j := s } { g with j := l } := ⟨f.t, f.bal, f.v, f.w, f.late, f.k, h⟩
theorem FarG.setV {v : Vt} (f : FarG U x g) (h : FarE U s v.l) : FarG U { x with v := ⟨s, v.out⟩ } { g with v := v } := ⟨f.t, f.bal, h, f.w, f.late, f.k, f.j⟩
theorem FarG.setT {l : List Nd} (f : FarG U x g) (h : FarE U s l) : FarG U { x with t := ⟨s⟩ } { g with t := l } := ⟨h, f.bal, f.v, f.w, f.late, f.k, f.j⟩
theorem zhd {α : Type} {E : Lie α} {l : List α} (h : SlE E w (sv s) l) (hT : w.heap.size ≤ T) : FarE T s l := by
 by_cases h0 : l = []
 ·
  exact .inl h0
 ·
  refine .inr fun e => ?_
  obtain ⟨b, o, c, e1, _, hb, _⟩ := zdm h (List.length_pos_iff.2 h0)
  rw [e1] at e
  have := Option.some.inj e
  dsimp only at this
  omega
theorem z3k (h : LaidG w x g) (hT : w.heap.size ≤ T) : FarG T x g := ⟨zhd h.t hT, zhd h.bal hT, zhd h.v hT, zhd h.w hT, zhd h.late hT, zhd h.k hT, zhd h.j hT⟩
def EnAt (W : World) (T : Nat) : Prop := ∃ z : En, W.heap[T]? = some (.cells (en z) 38 (0, 0))
theorem EnAt.keep {B : Nat} (b : Below B W W') (hT : T < B) (h : EnAt W T) : EnAt W' T := by
 obtain ⟨z, hz⟩ := h
 exact ⟨z, (b.block _ hT).trans hz⟩
theorem EnAt.lt (h : EnAt W T) : T < W.heap.size := by
 obtain ⟨z, hz⟩ := h
 exact (Array.getElem?_eq_some_iff.1 hz).1
theorem zv4 (v : Value) (o : Nat) (hn : R ≠ T) (h : EnAt W R) : EnAt (W.setCell ⟨T, o, none⟩ v) R := by
 obtain ⟨z, hz⟩ := h
 exact ⟨z, (zcb v o R hn).trans hz⟩
theorem yke (v : Value) (o : Nat) (hn : R ≠ T) (h : EnAt W R) : EnAt (stA W (.pointer (some ⟨T, o, none⟩)) v) R := by
 obtain ⟨z, hz⟩ := h
 exact ⟨z, (zcq v o R hn).trans hz⟩
theorem yqw {α : Type} {E : Lie α} {v : Value} {l : List α} (h : SlE E W v l) : ∃ p c, v = .slice p l.length c := by
 obtain ⟨p, c, e, _⟩ := zar h
 exact ⟨p, c, e⟩
end
theorem z2v {w : World} {p : Option Addr} {n cp : Nat} {l : List Aa} (h : SlE Eaa w (.slice p n cp) l) (h0 : 0 < l.length) : ∃ b o, p = some ⟨b, o, none⟩ ∧ b < w.heap.size ∧ w.rangeAt b o (zaq Eaa l) := by
 obtain ⟨b, o, c, e, _, q, x⟩ := zdm h h0
 injection e with e1 e2 e3
 exact ⟨b, o, e1, q, x⟩
theorem z80 {w : World} {b off : Nat} {l : List Aa} (h : w.rangeAt b off (zaq Eaa l)) {i : Nat} (hi : i < l.length) : ldA w (.pointer (some ⟨b, off + i * 100, none⟩)) 100 = some (aa (att l i)) := by
 have := zqb h hi
 rw [zsi hi]
 exact this.trans (by rw [show (Eaa.enc l[i]).toArray = aa l[i] from Array.toList_inj.1 (by rw [zz0]; rfl)])
theorem KaaB : zjp Tryz.prog Eaa 30 128 := ⟨Tryz.underlying30, .agg (aa zaa), yau, by show ((aa zaa)).size = _; exact zmf _⟩
def zzy (L K : List Aa) (w : World) (e : Ending) (w' : World) : Prop := ∃ v u, e = .returned (.tuple #[v, u]) ∧ SlE Eaa w' v L ∧ SlE Eaa w' u K ∧ Below w.heap.size w w'
theorem z8t (w : World) (x : Aa) (b : Nat) (hb : b = w.heap.size) : SlE Eaa (w.alloc (.cells (aa x) 113)) (.slice (some ⟨b, 0, none⟩) 1 1) [x] := zej _ [x] 1 _ _ _ rfl hb (by simp [zaq, Eaa, zz0])
def beyA (x : Aa) : Bool := decide (1099511627776 < x.slot.toNat)
theorem z59 (x : Aa) (w : World) : Calls Tryz.prog 126 #[.agg (aa x)] w fun e w' => e = .returned (.bool (beyA x)) ∧ Below w.heap.size w w' := by
 obtain ⟨W, hW⟩ : ∃ W, W = w.alloc (.cells (aa x) 113) := ⟨_, rfl⟩
 have hx : W.heap[w.heap.size]? = some (.cells (aa x) 113 (0, 0)) := by rw [hW]; exact heap_alloc_last w _
 have HB : Hid (Below w.heap.size w W) := by rw [hW]; exact below1
 have z := zo3 hx
 unfold num at z
 obtain ⟨b, hb⟩ : ∃ b, b = beyA x := ⟨_, rfl⟩
 rw [← hb]
 obtain ⟨y, hy⟩ : ∃ y, y = x.slot.toNat := ⟨_, rfl⟩
 rw [← hy] at z
 have t0 : decide ((1099511627776 : Int) < (y : Int)) = b := by rw [hb]; unfold beyA; rw [← hy]; exact decide_eq_decide.2 (by omega)
 have t1 : decide (1099511627776 < y) = b := by rw [hb]; unfold beyA; rw [← hy]
 have HW := Lib.hid hW
 clear hx hW hb hy
 go_enter Tryz.func126, Tryz.ntmps126
 go_upto_region 1 with fail
 rw [← HW.out]
 go_wp2_with fail
 go_ret
 exact ⟨by first | rfl | simp [t1], HB.out⟩
theorem zms : ∀ args w, (callFunc 126 args).run Tryz.prog w = .ok (.enter 126 args) w := zbe Tryz.func126 (by kernel_rfl) (by kernel_rfl)
structure ysn (pr : Nat → Bool) (n : Nat) (i : Int) : Prop where
 none : i < 0 → ∀ j, j < n → pr j = false
 some : 0 ≤ i → ∃ j, j < n ∧ pr j = true
theorem yl9 (g : Nat) (lb : Array Value) (eg : ∀ args w, (callFunc g args).run Tryz.prog w = .ok (.enter g args) w) (pr : Nat → Bool) (p : Option Addr) (n cp : Nat) (l : List Aa) (w : World) (h : SlE Eaa w (.slice p n cp) l) (hl : l.length = n) (hn : n ≤ 1000)
  (hp : ∀ (k : Nat) (W : World), k < n → Below w.heap.size w W → Calls Tryz.prog g (#[.agg (aa (att l k))] ++ lb) W fun e W' => e = .returned (.bool (pr k)) ∧ Below W.heap.size W W') :
  Calls Tryz.prog 153 #[.slice p n cp, .func (.func g) #[] lb] w fun e w' => (∃ i, e = .returned (.int .i64 i) ∧ ysn pr n i) ∧ Below w.heap.size w w' := by
 have HS := Lib.hid h
 have HL := Lib.hid hl
 have HN := Lib.hid hn
 have HP := Lib.hid hp
 clear h hl hn hp
 go_enter Tryz.func153, Tryz.ntmps153
 go_wp2_with fail
 go_loopw [5, 8] (fun _ k wr => ∃ j : Nat, j ≤ n ∧ k = .int .i64 (j : Int) ∧ (∀ x, x < j → pr x = false) ∧ Below w.heap.size w wr) (fun _ k _ => n - (intOf k).toNat)
 case atStart => exact ⟨0, Nat.zero_le _, rfl, fun x hx => absurd hx (Nat.not_lt_zero _), Below.refl _ _⟩
 case round =>
  obtain ⟨j, hj, rfl, hx, hb⟩ := hrel
  have HX := Lib.hid hx
  have HB := Lib.hid hb
  clear hx hb
  by_cases hlt : j < n
  ·
   obtain ⟨b1, o1, rfl, q1, x1⟩ := z2v HS.out (by have := HL.out; omega)
   have y1 := z80 (zfu HB.out x1) (i := j) (by have := HL.out; omega)
   have i0 : (0 : Int) ≤ (j : Int) := by omega
   have i1 : (j : Int) < (n : Int) := by omega
   have u1 : (j : Int) + 1 < 10000 := by have := HN.out; omega
   have HLT := Lib.hid hlt
   have HQ := Lib.hid (HP.out j wr hlt HB.out)
   obtain ⟨x, hx⟩ : ∃ x, x = att l j := ⟨_, rfl⟩
   rw [← hx] at y1 HQ
   obtain ⟨r, hr⟩ : ∃ r, r = pr j := ⟨_, rfl⟩
   rw [← hr] at HQ
   have HR := Lib.hid hr.symm
   clear hlt q1 x1 hx hr
   go_wp2_with fail
   refine HQ.out.mono ?_
   rintro e w2 ⟨rfl, g2⟩
   have G2 := Lib.hid (zac HB.out g2)
   clear g2 y1
   cases r
   ·
    go_wp2_with fail
    go_roundw
    case rel => exact ⟨j + 1, HLT.out, by go_num, (fun x hx => by
     rcases Nat.lt_succ_iff_lt_or_eq.1 hx with h | rfl
     ·
      exact HX.out x h
     ·
      exact HR.out), G2.out⟩
    case measure => simp [intOf]; have := HLT.out; omega
   ·
    go_wp2_with fail
    go_ret
    exact ⟨⟨_, rfl, ⟨fun h => absurd h (by omega), fun _ => ⟨j, HLT.out, HR.out⟩⟩⟩, G2.out⟩
  ·
   obtain rfl : j = n := by omega
   clear hlt
   go_wp2_with fail
   go_ret
   exact ⟨⟨_, rfl, ⟨fun _ => HX.out, fun h => absurd h (by omega)⟩⟩, HB.out⟩
def zjq (l : List Aa) : Bool := l.any beyA
theorem z8y {l : List Aa} (h : ∀ j, j < l.length → beyA (att l j) = false) : zjq l = false := by
 unfold zjq
 rw [List.any_eq_false]
 intro x hx
 obtain ⟨i, hi, rfl⟩ := List.getElem_of_mem hx
 have := h i hi
 rw [zsi hi] at this
 simp [this]
theorem z4y {l : List Aa} {j : Nat} (hj : j < l.length) (h : beyA (att l j) = true) : zjq l = true := by
 unfold zjq
 rw [List.any_eq_true]
 rw [zsi hj] at h
 exact ⟨_, List.getElem_mem hj, h⟩
theorem z3v (l : List Aa) : mayA l = (decide (l.length ≤ 6) && !zjq l) := by
 rw [Bool.eq_iff_iff, zhm, Bool.and_eq_true, decide_eq_true_iff, Bool.not_eq_true', zjq, List.any_eq_false]
 refine and_congr Iff.rfl (forall_congr' fun x => forall_congr' fun _ => ?_)
 unfold beyA
 rw [decide_eq_true_iff]
 omega
theorem z0e (p : Option Addr) (n cp : Nat) (l : List Aa) (w : World) (h : SlE Eaa w (.slice p n cp) l) (hl : l.length = n) (hn : n ≤ 1000) :
  Calls Tryz.prog 125 #[.slice p n cp, .func (.func 126) #[] #[]] w fun e w' => e = .returned (.bool (zjq l)) ∧ Below w.heap.size w w' := by
 have HI := Lib.hid (yl9 126 #[] zms (fun k => beyA (att l k)) p n cp l w h hl hn (fun k W _ _ => z59 _ W))
 have HL := Lib.hid hl
 clear h hl hn
 go_enter Tryz.func125, Tryz.ntmps125
 go_wp2_with fail
 refine HI.out.mono ?_
 rintro e w1 ⟨⟨i, rfl, hi⟩, g⟩
 by_cases h0 : 0 ≤ i
 ·
  have t0 : decide ((0 : Int) ≤ i) = true := decide_eq_true h0
  have HF : Hid (zjq l = true) := by
   obtain ⟨j, hj, e⟩ := hi.some h0
   exact z4y (by rw [HL.out]; exact hj) e
  have HG := Lib.hid g
  clear hi g
  go_wp2_with fail
  go_ret
  exact ⟨by rw [HF.out]; first | done | rfl, HG.out⟩
 ·
  have t0 : decide ((0 : Int) ≤ i) = false := decide_eq_false h0
  have HF : Hid (zjq l = false) := z8y fun j hj => hi.none (by omega) j (by rw [← HL.out]; exact hj)
  have HG := Lib.hid g
  clear hi g h0
  go_wp2_with fail
  go_ret
  exact ⟨by rw [HF.out]; first | done | rfl, HG.out⟩
theorem ya3 (p : Option Addr) (n cp : Nat) (l : List Aa) (w : World) (h : SlE Eaa w (.slice p n cp) l) (hl : l.length = n) :
  Calls Tryz.prog 89 #[.slice p n cp] w fun e w' => e = .returned (.bool (mayA l)) ∧ Below w.heap.size w w' := by
 by_cases h6 : n ≤ 6
 ·
  have HC := Lib.hid (z0e p n cp l w h hl (by omega))
  have t0 : decide ((n : Int) ≤ 6) = true := decide_eq_true (by omega)
  have t1 : decide (n ≤ 6) = true := decide_eq_true h6
  rw [z3v, hl, t1, Bool.true_and]
  obtain ⟨r, hr⟩ : ∃ r, r = zjq l := ⟨_, rfl⟩
  rw [← hr] at HC ⊢
  clear h hl hr h6
  go_enter Tryz.func89, Tryz.ntmps89
  go_wp2_with fail
  refine HC.out.mono ?_
  rintro e w1 ⟨rfl, g⟩
  go_wp2_with fail
  go_ret
  exact ⟨rfl, g⟩
 ·
  have t0 : decide ((n : Int) ≤ 6) = false := decide_eq_false (by omega)
  have t1 : decide (n ≤ 6) = false := decide_eq_false h6
  rw [z3v, hl, t1, Bool.false_and]
  clear h hl h6
  go_enter Tryz.func89, Tryz.ntmps89
  go_wp2_with fail
  go_ret
  exact ⟨rfl, Below.refl _ _⟩
theorem ymh (v : Value) (l : List Aa) (w : World) (h : SlE Eaa w v l) :
  Calls Tryz.prog 89 #[v] w fun e w' => e = .returned (.bool (mayA l)) ∧ Below w.heap.size w w' := by
 have k := h
 obtain ⟨p, cp, rfl, _⟩ := zar h
 exact ya3 p _ cp l w k rfl
def zn3 (l : List Aa) (now j : Nat) : List Aa := dueL (l.take j) now
def zhz (l : List Aa) (now j : Nat) : List Aa := zh4 (l.take j) now
theorem z4q {l : List Aa} {j : Nat} (h : j < l.length) : l.take (j + 1) = l.take j ++ [att l j] := by rw [List.take_succ_eq_append_getElem h, zsi h]
theorem yq2 {l : List Aa} {now j : Nat} (h : j < l.length) (hd : slA l j < now) : zn3 l now (j + 1) = zn3 l now j ++ [att l j] ∧ zhz l now (j + 1) = zhz l now j := by
 unfold zn3 zhz
 rw [z4q h]
 refine ⟨yf0 hd, ?_⟩
 rw [z4e]
 unfold slA at hd
 simp [zh4, zr2, hd]
theorem ytn {l : List Aa} {now j : Nat} (h : j < l.length) (hd : ¬ slA l j < now) : zn3 l now (j + 1) = zn3 l now j ∧ zhz l now (j + 1) = zhz l now j ++ [att l j] := by
 unfold zn3 zhz
 rw [z4q h]
 refine ⟨?_, ycw hd⟩
 rw [z9v]
 unfold slA at hd
 simp [dueL, zr2, hd]
theorem yq1 {l : List Aa} {now j : Nat} : (zn3 l now j).length ≤ j ∧ (zhz l now j).length ≤ j := by
 have h1 := yjg (l := l.take j) (now := now)
 have h2 := ycx (l := l.take j) (now := now)
 have h3 : (l.take j).length ≤ j := by rw [List.length_take]; omega
 exact ⟨Nat.le_trans h1 h3, Nat.le_trans h2 h3⟩
theorem yq0 {l : List Aa} {now j : Nat} (h : l.length = j) : zn3 l now j = dueL l now ∧ zhz l now j = zh4 l now := by
 subst h
 unfold zn3 zhz
 rw [List.take_length]
 exact ⟨rfl, rfl⟩
theorem yny (p q : Nat) : SepE (.slice none 0 p) (.slice none 0 q) := fun b hb => by cases hb
theorem z6a (g : Nat) (lb : Array Value) (eg : ∀ args w, (callFunc g args).run Tryz.prog w = .ok (.enter g args) w) (now : Nat) (p : Option Addr) (n cp : Nat) (l : List Aa) (w : World) (h : SlE Eaa w (.slice p n cp) l) (hl : l.length = n) (hn : n ≤ 1000)
  (hp : ∀ (k : Nat) (W : World), k < n → Below w.heap.size w W → Calls Tryz.prog g (#[.agg (aa (att l k))] ++ lb) W fun e W' => e = .returned (.bool (decide (slA l k < now))) ∧ Below W.heap.size W W') :
  Calls Tryz.prog 123 #[.slice p n cp, .func (.func g) #[] lb] w (zzy (dueL l now) (zh4 l now) w) := by
 have HS := Lib.hid h
 have HL := Lib.hid hl
 have HN := Lib.hid hn
 have HP := Lib.hid hp
 clear h hl hn hp
 go_enter Tryz.func123, Tryz.ntmps123
 go_wp2_with fail
 go_loopw [6, 7, 12] (fun u v i wr => ∃ j : Nat, j ≤ n ∧ i = .int .i64 (j : Int) ∧ OwnE Eaa wr w.heap.size u (zn3 l now j) ∧ OwnE Eaa wr w.heap.size v (zhz l now j) ∧ SepE u v ∧ Below w.heap.size w wr) (fun _ _ i _ => n - (intOf i).toNat)
 case atStart => exact ⟨0, Nat.zero_le _, rfl, by rw [show zn3 l now 0 = [] from rfl]; exact zb3 _ _ _, by rw [show zhz l now 0 = [] from rfl]; exact zb3 _ _ _, yny _ _, Below.refl _ _⟩
 case round =>
  obtain ⟨j, hj, rfl, ho1, ho2, hs, hb⟩ := hrel
  have HO1 := Lib.hid ho1
  have HO2 := Lib.hid ho2
  have HSp := Lib.hid hs
  have HB := Lib.hid hb
  have HLe := Lib.hid (yq1 (l := l) (now := now) (j := j))
  obtain ⟨pu, cu, rfl⟩ := zei ho1
  obtain ⟨pv, cv, rfl⟩ := zei ho2
  obtain ⟨m1, hm1⟩ : ∃ m1, m1 = (zn3 l now j).length := ⟨_, rfl⟩
  obtain ⟨m2, hm2⟩ : ∃ m2, m2 = (zhz l now j).length := ⟨_, rfl⟩
  rw [← hm1] at HO1 HSp HLe
  rw [← hm2] at HO2 HSp HLe
  rw [← hm1, ← hm2]
  have HM1 := Lib.hid hm1
  have HM2 := Lib.hid hm2
  clear ho1 ho2 hs hb hm1 hm2
  by_cases hlt : j < n
  ·
   have i0 : (0 : Int) ≤ (j : Int) := by omega
   have i1 : (j : Int) < (n : Int) := by omega
   have u1 : (j : Int) + 1 < 10000 := by have := HN.out; omega
   obtain ⟨b1, o1, rfl, q1, x1⟩ := z2v (zad HB.out HS.out) (by have := HL.out; omega)
   have y2 := z80 x1 (i := j) (by have := HL.out; omega)
   have HLT := Lib.hid hlt
   have HU1 := Lib.hid (fun h => yq2 (l := l) (now := now) (j := j) (by have := HL.out; omega) h)
   have HU2 := Lib.hid (fun h => ytn (l := l) (now := now) (j := j) (by have := HL.out; omega) h)
   obtain ⟨x, hx⟩ : ∃ x, x = att l j := ⟨_, rfl⟩
   rw [← hx] at y2 HU1 HU2
   obtain ⟨W1, hW1⟩ : ∃ W1, W1 = wr.alloc (.cells (aa x) 113) := ⟨_, rfl⟩
   have hx1 : W1.heap[wr.heap.size]? = some (.cells (aa x) 113 (0, 0)) := by rw [hW1]; exact heap_alloc_last wr _
   have B1 : Hid (Below w.heap.size w W1) := by rw [hW1]; exact zac HB.out below1
   have O1 := Lib.hid (zba HO1.out (.cells (aa x) 113))
   have O2 := Lib.hid (zba HO2.out (.cells (aa x) 113))
   rw [← hW1] at O1 O2
   have HX1 := Lib.hid hx1
   have z1 := zag hx1 (zmf x)
   have HQ := Lib.hid (HP.out j W1 hlt B1.out)
   rw [← hx] at HQ
   have HW := Lib.hid hW1
   clear x1 hlt hx q1 hW1 hx1
   go_upto_region 5 with fail
   rw [← HW.out]
   go_wp2_with fail
   refine HQ.out.mono ?_
   rintro e w2 ⟨rfl, g2⟩
   have G2 := Lib.hid (zac B1.out g2)
   have P1 := Lib.hid (zam g2 O1.out)
   have P2 := Lib.hid (zam g2 O2.out)
   have z2 := zag (zab g2 HX1.out) (zmf x)
   have Z : Hid (w.heap.size ≤ w2.heap.size) := G2.out.size
   clear g2 y2 z1
   by_cases hd : slA l j < now
   ·
    rw [decide_eq_true hd]
    obtain ⟨e1, e2⟩ := HU1.out hd
    have E1 := Lib.hid e1
    have E2 := Lib.hid e2
    clear hd e1 e2
    go_wp2_with (at_builtin; go_loud (refine zbs Kaa _ rfl (.tmp 19) (.tmp 21) rfl w.heap.size _ _ rfl (zba P1.out _) _ [x] rfl (z8t _ x _ (by simp)) (by rw [← HM1.out]; have := HLe.out.1; have := HLT.out; have := HN.out; simp; omega) (by have := Z.out; simp; omega) ?_; intro v4 w4 ho4 hg4; have O4 := Lib.hid ho4; have G4 := Lib.hid (Gr.alloc hg4); clear ho4 hg4))
    go_roundw
    case rel => exact ⟨j + 1, HLT.out, by go_num, by rw [E1.out]; exact O4.out, by rw [E2.out]; exact yca HSp.out P2.out G4.out, yc4 HSp.out P2.out G4.out, G2.out.trans (G4.out.own P1.out Z.out)⟩
    case measure => simp [intOf]; have := HLT.out; omega
   ·
    rw [decide_eq_false hd]
    obtain ⟨e1, e2⟩ := HU2.out hd
    have E1 := Lib.hid e1
    have E2 := Lib.hid e2
    clear hd e1 e2
    go_wp2_with (at_builtin; go_loud (refine zbs Kaa _ rfl (.tmp 23) (.tmp 25) rfl w.heap.size _ _ rfl (zba P2.out _) _ [x] rfl (z8t _ x _ (by simp)) (by rw [← HM2.out]; have := HLe.out.2; have := HLT.out; have := HN.out; simp; omega) (by have := Z.out; simp; omega) ?_; intro v4 w4 ho4 hg4; have O4 := Lib.hid ho4; have G4 := Lib.hid (Gr.alloc hg4); clear ho4 hg4))
    go_roundw
    case rel => exact ⟨j + 1, HLT.out, by go_num, by rw [E1.out]; exact z6x HSp.out P1.out G4.out, by rw [E2.out]; exact O4.out, z7n HSp.out P1.out G4.out, G2.out.trans (G4.out.own P2.out Z.out)⟩
    case measure => simp [intOf]; have := HLT.out; omega
  ·
   obtain rfl : j = n := by omega
   obtain ⟨e1, e2⟩ := yq0 (now := now) HL.out
   rw [e1] at HO1
   rw [e2] at HO2
   clear hlt e1 e2
   go_wp2_with fail
   go_ret2
   exact ⟨_, _, rfl, zat HO1.out, zat HO2.out, HB.out⟩
theorem ya4 (x : Aa) (now a : Nat) (w : World) (hz : w.cell? ⟨a, 0, none⟩ = some (.int .u64 (now : Int))) (ha : a < w.heap.size) : Calls Tryz.prog 124 #[.agg (aa x), .pointer (some ⟨a, 0, none⟩)] w fun e w' => e = .returned (.bool (decide (x.slot.toNat < now))) ∧ Below w.heap.size w w' := by
 obtain ⟨W, hW⟩ : ∃ W, W = w.alloc (.cells (aa x) 113) := ⟨_, rfl⟩
 have hx : W.heap[w.heap.size]? = some (.cells (aa x) 113 (0, 0)) := by rw [hW]; exact heap_alloc_last w _
 have HB : Hid (Below w.heap.size w W) := by rw [hW]; exact below1
 have z := zo3 hx
 unfold num at z
 have z2 : W.cell? ⟨a, 0, none⟩ = some (.int .u64 (now : Int)) := by rw [HB.out.cell ha]; exact hz
 obtain ⟨y, hy⟩ : ∃ y, y = x.slot.toNat := ⟨_, rfl⟩
 rw [← hy] at z
 rw [← hy]
 obtain ⟨b, hb⟩ : ∃ b, b = decide (y < now) := ⟨_, rfl⟩
 rw [← hb]
 have t0 : decide ((y : Int) < (now : Int)) = b := by rw [hb]; exact decide_eq_decide.2 (by omega)
 have t1 : decide (y < now) = b := hb.symm
 have HW := Lib.hid hW
 clear hx hW hb hy hz ha
 go_enter Tryz.func124, Tryz.ntmps124
 go_upto_region 1 with fail
 rw [← HW.out]
 go_wp2_with fail
 go_ret
 exact ⟨by first | rfl | simp [t1], HB.out⟩
theorem zn4 : ∀ args w, (callFunc 124 args).run Tryz.prog w = .ok (.enter 124 args) w := zbe Tryz.func124 (by kernel_rfl) (by kernel_rfl)
theorem ya2 (p : Option Addr) (n cp : Nat) (l : List Aa) (now : Nat) (w : World) (h : SlE Eaa w (.slice p n cp) l) (hl : l.length = n) (hn : n ≤ 1000) :
  Calls Tryz.prog 88 #[.slice p n cp, .int .u64 (now : Int)] w (zzy (dueL l now) (zh4 l now) w) := by
 obtain ⟨W, hW⟩ : ∃ W, W = w.alloc (.cells #[.int .u64 (now : Int)] 27) := ⟨_, rfl⟩
 have HB : Hid (Below w.heap.size w W) := by rw [hW]; exact below1
 have hz : W.cell? ⟨w.heap.size, 0, none⟩ = some (.int .u64 (now : Int)) := by rw [hW]; exact cell_of_row _ _ _ _ _ _ (heap_alloc_last w _)
 have hsz : w.heap.size < W.heap.size := by rw [hW]; simp
 have HP := Lib.hid (z6a 124 #[.pointer (some ⟨w.heap.size, 0, none⟩)] zn4 now p n cp l W (zad HB.out h) hl hn
  (fun k W' _ g => ya4 _ now _ W' (by rw [g.cell hsz]; exact hz) (Nat.lt_of_lt_of_le hsz g.size)))
 have HW := Lib.hid hW
 clear h hl hn hW hz hsz
 go_enter Tryz.func88, Tryz.ntmps88
 go_upto_region 1 with fail
 rw [← HW.out]
 go_wp2_with fail
 refine HP.out.mono ?_
 rintro e w1 ⟨v1, v2, rfl, h1, h2, g⟩
 have H1 := Lib.hid h1
 have H2 := Lib.hid h2
 have HG := Lib.hid (zac HB.out g)
 clear h1 h2 g
 go_wp2_with fail
 go_ret2
 exact ⟨_, _, rfl, H1.out, H2.out, HG.out⟩
theorem ymg (v : Value) (l : List Aa) (now : Nat) (w : World) (h : SlE Eaa w v l) (hn : l.length ≤ 1000) :
  Calls Tryz.prog 88 #[v, .int .u64 (now : Int)] w (zzy (dueL l now) (zh4 l now) w) := by
 have k := h
 obtain ⟨p, cp, rfl, _⟩ := zar h
 exact ya2 p _ cp l now w k rfl hn
end Go.Proofs.YtkalofboioffiaaGreat
