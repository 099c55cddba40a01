import Derived.Test.YtkalofboioffiaaGreatQ12
namespace Go.Proofs.YtkalofboioffiaaGreat
open Go.RowKit
set_option maxRecDepth 200000
set_option maxHeartbeats 64000000
section
variable {s : Sg}
theorem zqk (h : mayN s = true) : MayT s.t := (zdi.1 (by have := (zop.1 h).1; unfold zb0 at this; rw [Bool.and_eq_true, Bool.and_eq_true] at this; exact this.1.1)).1
theorem z06 (h : mayN s = true) : ∃ i k m : Nat, i < s.t.length ∧ k < s.t.length ∧ m < s.t.length ∧ zal s.t s.fin.root = i ∧ zal s.t s.head = k ∧ zal s.t s.just.root = m ∧ zao s.t i k = true ∧ zao s.t i m = true := by
 obtain ⟨h1, h2⟩ := zop.1 h
 obtain ⟨_, a1, a2, a3, a4, a5⟩ := zwv h1
 obtain ⟨_, _, _, b3, b4, b5⟩ := zwv h2
 refine ⟨(zal s.t s.fin.root).toNat, (zal s.t s.head).toNat, (zal s.t s.just.root).toNat, by omega, by omega, by omega, by omega, by omega, by omega, a5, b5⟩
theorem zt1 (h : mayN s = true) (r b : Rt) (slot : Nat) : (zal s.t r = -1 ∧ askN s 6 r b slot = { zRg with e := 5 }) ∨ ∃ i : Nat, i < s.t.length ∧ zal s.t r = i ∧
  ((atT s.t i slot = -1 ∧ askN s 6 r b slot = { zRg with e := 8 } ∧ ∀ k, zao s.t k i = true → slot < sl s.t k) ∨ ∃ q : Nat, atT s.t i slot = q ∧ q < s.t.length ∧ zao s.t q i = true ∧ sl s.t q ≤ slot ∧ askN s 6 r b slot = { zRg with r := (nd s.t q).root }) := by
 have ht := zqk h
 have ha := zmh h 6 r b slot
 rw [if_neg (by decide), if_neg (by decide), if_pos rfl] at ha
 rcases zck ht r with ⟨i, hi, e1, _⟩ | ⟨e1, _⟩
 ·
  refine .inr ⟨i, hi, e1, ?_⟩
  rw [e1, if_neg (by omega), zjy ht hi] at ha
  rcases zt5 ht slot i hi with ⟨q1, q2⟩ | ⟨q, q1, q2, q3, q4, _⟩
  ·
   rw [q1, if_pos (by decide)] at ha
   exact .inl ⟨q1, ha, q2⟩
  ·
   rw [q1, if_neg (by omega)] at ha
   have hq : ((q : Int)).toNat = q := by omega
   rw [hq] at ha
   exact .inr ⟨q, q1, q2, q3, q4, ha⟩
 ·
  rw [e1, if_pos (by decide)] at ha
  exact .inl ⟨e1, ha⟩
theorem zkp (h : mayN s = true) (a b : Rt) (slot : Nat) : ((zal s.t a = -1 ∨ zal s.t b = -1) ∧ askN s 7 a b slot = { zRg with e := 5 }) ∨ ∃ i k : Nat, i < s.t.length ∧ k < s.t.length ∧ zal s.t a = i ∧ zal s.t b = k ∧ askN s 7 a b slot = { zRg with is := zao s.t i k } := by
 have ht := zqk h
 have ha := zmh h 7 a b slot
 rw [if_neg (by decide), if_neg (by decide), if_neg (by decide), if_pos rfl] at ha
 rcases zck ht a with ⟨i, hi, e1, _⟩ | ⟨e1, _⟩
 ·
  rcases zck ht b with ⟨k, hk, f1, _⟩ | ⟨f1, _⟩
  ·
   rw [e1, f1, if_neg (by omega), zb6 ht hi hk] at ha
   exact .inr ⟨i, k, hi, hk, e1, f1, ha⟩
  ·
   rw [f1, if_pos (.inr (by decide))] at ha
   exact .inl ⟨.inr f1, ha⟩
 ·
  rw [e1, if_pos (.inl (by decide))] at ha
  exact .inl ⟨.inl e1, ha⟩
theorem z0y (h : mayN s = true) (r zb : Rt) (slot z : Nat) :
  askN s 7 s.fin.root s.head z = { zRg with is := true } ∧
  ((
   zal s.t r = -1 ∧ askN s 7 r r z = { zRg with e := 5 } ∧ askN s 6 r zb slot = { zRg with e := 5 }) ∨ (0 ≤ zal s.t r ∧ askN s 7 r r z = { zRg with is := true } ∧
   (askN s 6 r zb slot = { zRg with e := 8 } ∨ ∃ q : Nat, q < s.t.length ∧ sl s.t q ≤ slot ∧ askN s 6 r zb slot = { zRg with r := (nd s.t q).root } ∧ zal s.t (nd s.t q).root = q ∧ askN s 7 (nd s.t q).root r z = { zRg with is := true }))) := by
 have ht := zqk h
 obtain ⟨i, k, m, hi, hk, hm, e1, e2, e3, e4, e5⟩ := z06 h
 constructor
 ·
  rcases zkp h s.fin.root s.head z with ⟨q, _⟩ | ⟨a, b, ha, hb, f1, f2, f3⟩
  ·
   omega
  ·
   obtain rfl : a = i := by omega
   obtain rfl : b = k := by omega
   rw [f3, e4]
 ·
  rcases zt1 h r zb slot with ⟨q1, q2⟩ | ⟨x, hx, q1, q2⟩
  ·
   refine .inl ⟨q1, ?_, q2⟩
   rcases zkp h r r z with ⟨_, q⟩ | ⟨a, b, ha, hb, f1, _⟩
   ·
    exact q
   ·
    omega
  ·
   refine .inr ⟨by omega, ?_, ?_⟩
   ·
    rcases zkp h r r z with ⟨q, _⟩ | ⟨a, b, ha, hb, f1, f2, f3⟩
    ·
     omega
    ·
     obtain rfl : a = b := by omega
     rw [f3, zb8 ht ha]
   ·
    rcases q2 with ⟨_, q2, _⟩ | ⟨q, g1, g2, g3, g4, g5⟩
    ·
     exact .inl q2
    ·
     refine .inr ⟨q, g2, g4, g5, zeh ht g2, ?_⟩
     rcases zkp h (nd s.t q).root r z with ⟨f, _⟩ | ⟨a, b, ha, hb, f1, f2, f3⟩
     ·
      have := zeh ht g2; omega
     ·
      have hq := zeh ht g2
      obtain rfl : a = q := by omega
      obtain rfl : b = x := by omega
      rw [f3, g3]
theorem zu8 (h : mayN s = true) {i : Nat} (hi : i < s.t.length) (zb : Rt) : zal s.t (nd s.t i).root = i ∧ askN s 6 (nd s.t i).root zb (sl s.t i) = { zRg with r := (nd s.t i).root } ∧ askN s 6 (nd s.t i).root zb 18446744073709551615 = { zRg with r := (nd s.t i).root } ∧
  (0 < sl s.t 0 → askN s 6 (nd s.t i).root zb (sl s.t 0 - 1) = { zRg with e := 8 }) := by
 have ht := zqk h
 have hf := zeh ht hi
 have hself : ∀ slot, sl s.t i ≤ slot → askN s 6 (nd s.t i).root zb slot = { zRg with r := (nd s.t i).root } := fun slot hs => by
  rcases zt1 h (nd s.t i).root zb slot with ⟨q, _⟩ | ⟨x, hx, q1, q2⟩
  ·
   omega
  ·
   obtain rfl : x = i := by omega
   rcases q2 with ⟨q2, _, _⟩ | ⟨q, g1, _, _, _, g5⟩
   ·
    rw [zt4 ht hi hs] at q2; omega
   ·
    rw [zt4 ht hi hs] at g1
    obtain rfl : x = q := by omega
    exact g5
 refine ⟨hf, hself _ (Nat.le_refl _), hself _ (by have := (nd s.t i).slot.toNat_lt; unfold sl; omega), fun h0 => ?_⟩
 rcases zt1 h (nd s.t i).root zb (sl s.t 0 - 1) with ⟨q, _⟩ | ⟨x, hx, q1, q2⟩
 ·
  omega
 ·
  rcases q2 with ⟨_, q2, _⟩ | ⟨q, _, g2, _, g4, _⟩
  ·
   exact q2
  ·
   have := zsg ht (a := 0) q g2 (zo4 ht q g2)
   omega
end
section
open Go.RowKit
theorem yaw : (Tryz.prog.info? 115).map (fun i => (i.zero, i.size, i.bytes)) = some (some (.agg (lt zlt)), 34, 48) := by kernel_rfl
section
open Go.WideShapes Go.ChangeShapes
variable {H : Type} {enc : TypeId × Value → H} {w : World} {base : Nat} {sp : Nat → Bool} {held : Bool}
theorem ye6 {fuel : Nat} {v : Value} {x : DataW H × List MemPlace} (h : DataW.trod enc Tryz.prog w base sp held fuel 26 [v] = some x) : ∃ l : List Lt, SlE Elt w v l :=
 zj5 Tryz.underlying26 zsu (fun _ cs _ h => yfd (by obtain ⟨_, _, _, _, hl, _⟩ := DataW.trod_struct zjj h; rw [hl, zsu]) h) h
theorem z9c {fuel : Nat} {cs : List Value} {x : DataW H × List MemPlace} (h : DataW.trod enc Tryz.prog w base sp held fuel 26 cs = some x) : ∃ s : SlV, cs = [sv s] ∧ ∃ l : List Lt, SlE Elt w (sv s) l := by
 rcases Deep.open_slice Tryz.underlying26 h with ⟨h1, _⟩ | ⟨a', len', cap', _, _, _, _, h1, _⟩
 ·
  subst h1
  exact ⟨⟨none, 0, 0⟩, rfl, [], zbr _ _ _ _⟩
 ·
  subst h1
  exact ⟨⟨some a', len', cap'⟩, rfl, ye6 h⟩
end
end
section
open Go.RowKit
structure Vo where
 l : SlV
 out : UInt64
def voL (x : Vo) : List Value := [sv x.l] ++ ([num x.out])
def vo (x : Vo) : Array Value := (voL x).toArray
theorem zrj (x : Vo) : (vo x).toList = voL x := rfl
theorem yq4 (x : Vo) : (voL x).length = 2 := by simp [voL]
theorem zbv (x : Vo) : (vo x).size = 2 := by rw [← Array.length_toList, zrj, yq4]
theorem ykg (x : Vo) : ∀ v ∈ voL x, v.oneCell' = true := by
 intro v hv
 unfold voL at hv
 simp only [List.mem_append, List.mem_singleton] at hv
 rcases hv with rfl | rfl
 ·
  rfl
 ·
  rfl
@[go_sem] theorem yt6 (x : Vo) : okA 2 (.agg (vo x)) = true := by
 show ((vo x).size == 2 && (vo x).all (·.oneCell')) = true
 rw [show (vo x).all (·.oneCell') = true from zea (ykg x), zbv]; rfl
def zvo : Vo := ⟨⟨none, 0, 0⟩, 0⟩
theorem z2o (w : World) : (zeroValue 29).run Tryz.prog w = .ok (.agg (vo zvo)) w := by kernel_rfl
@[go_sem ↓] theorem ytd (ρ : Operand → Value) (dst : Option Tmp) (x : Operand) (ty : TypeId) (pos : String) (after : Array Edge) (guard : Option (Nat × Bool)) (w : World) :
  (execOp ρ { dst, op := .load 29 x, type := ty, pos, after, guard }).run Tryz.prog w = zkh (ldA w (ρ x) 2) w (zbn Tryz.prog ρ { dst, op := .load 29 x, type := ty, pos, after, guard } w) :=
 zb2 Tryz.isAgg29 Tryz.sizeOf29 ρ dst x ty pos after guard w
@[go_sem ↓] theorem ysi (ρ : Operand → Value) (dst : Option Tmp) (x y : Operand) (ty : TypeId) (pos : String) (after : Array Edge) (guard : Option (Nat × Bool)) (w : World) :
  (execOp ρ { dst, op := .store 29 x y, type := ty, pos, after, guard }).run Tryz.prog w = zjo (wrA w (ρ x) 2 && okA 2 (ρ y)) (stA w (ρ x) (ρ y)) (zbn Tryz.prog ρ { dst, op := .store 29 x y, type := ty, pos, after, guard } w) :=
 zbm Tryz.sizeOf29 ρ dst x y ty pos after guard w
@[go_sem ↓] theorem yrt (ρ : Operand → Value) (dst : Option Tmp) (ty : TypeId) (pos : String) (after : Array Edge) (guard : Option (Nat × Bool)) (w : World) :
  (execOp ρ { dst, op := .alloc 29, type := ty, pos, after, guard }).run Tryz.prog w = .ok (.value (.pointer (some ⟨w.heap.size, 0, none⟩))) (w.alloc (.cells (vo zvo) 29)) := by
 unfold execOp
 simp only [Instr.alloc, Sem.run_bind, z2o, Result.andThen_ok]
 rfl
def places_vo : List (Nat × Nat) := [(0, 1), (1, 1)]
theorem zxk : ∀ w : World, ((Tryz.prog.fieldsOf 29).mapM (m := Sem) fun f => do pure (f.offset, ← Go.sizeOf f.type)).run Tryz.prog w = .ok places_vo.toArray w := fun _ => by kernel_rfl
theorem zoy : Tryz.prog.underlying 29 = some (.struct (Tryz.prog.fieldsOf 29)) := by kernel_rfl
theorem yak : (Tryz.prog.fieldsOf 29).toList.map (fun f => (f.name, f.type, f.offset)) = [("L", 26, 0), ("Out", 27, 1)] := by kernel_rfl
@[go_sem ↓] theorem yr4 (ρ : Operand → Value) (dst : Option Tmp) (p : Nat × Operand) (ps : List (Nat × Operand)) (ty : TypeId) (pos : String) (after : Array Edge) (guard : Option (Nat × Bool)) (w : World) :
  (execOp ρ { dst, op := .build 29 (p :: ps).toArray, type := ty, pos, after, guard }).run Tryz.prog w = zg7 ((zh2 places_vo (vo zvo) ((p.1, ρ p.2) :: ps.map fun p => (p.1, ρ p.2))).map .agg) w (zbn Tryz.prog ρ { dst, op := .build 29 (p :: ps).toArray, type := ty, pos, after, guard } w) :=
 zcg z2o zoy zxk ρ dst (p :: ps).toArray ty pos after guard w
@[go_sem ↓] theorem ypd (ρ : Operand → Value) (dst : Option Tmp) (ty : TypeId) (pos : String) (after : Array Edge) (guard : Option (Nat × Bool)) (w : World) :
  (execOp ρ { dst, op := .build 29 #[], type := ty, pos, after, guard }).run Tryz.prog w = .ok (.value (.agg (vo zvo))) w :=
 zcg z2o zoy zxk ρ dst #[] ty pos after guard w
attribute [go_sem] places_vo zbv
theorem znj (x : Vo) : voL x = ([]) ++ ([sv x.l] ++ ([num x.out])) ∧ ([] : List Value).length = 0 := by
 constructor
 ·
  unfold voL; simp
 ·
  rfl
theorem yiv (x : Vo) : (vo x)[0]? = some (sv x.l) := zij (znj x).1 (znj x).2
@[go_sem] theorem yto (x : Vo) (h : 0 < (vo x).size) : (vo x)[0]'h = sv x.l := by have := yiv x; rw [Array.getElem?_eq_getElem h] at this; exact Option.some.inj this
theorem ydt {w : World} {b off : Nat} {x : Vo} (h : w.rangeAt b off (voL x)) : w.cell? ⟨b, off + 0, none⟩ = some (sv x.l) := zbj h (znj x).1 (znj x).2
theorem yiw {w : World} {g : Nat} {t : TypeId} {fr : Nat × Nat} {x : Vo} (h : w.heap[g]? = some (.cells (vo x) t fr)) : w.cell? ⟨g, 0, none⟩ = some (sv x.l) := by have := ydt (x := x) (zai h); rwa [Nat.zero_add] at this
theorem zoz (x : Vo) (y : SlV) : za2 (vo x) 0 #[sv y] = vo { x with l := y } := by
 rw [za3 (c := vo x) (r := #[sv y]) (znj x).1 (znj x).2 rfl]
 simp [vo, voL]
theorem zzn (x : Vo) : voL x = ([sv x.l]) ++ ([num x.out] ++ ([])) ∧ ([sv x.l] : List Value).length = 1 := by
 constructor
 ·
  unfold voL; simp
 ·
  simp
theorem ydu {w : World} {b off : Nat} {x : Vo} (h : w.rangeAt b off (voL x)) : w.cell? ⟨b, off + 1, none⟩ = some (num x.out) := zbj h (zzn x).1 (zzn x).2
theorem z8g {w : World} {g : Nat} {t : TypeId} {fr : Nat × Nat} {x : Vo} (h : w.heap[g]? = some (.cells (vo x) t fr)) : w.cell? ⟨g, 1, none⟩ = some (num x.out) := by have := ydu (x := x) (zai h); rwa [Nat.zero_add] at this
@[go_sem] theorem ydv (x : Vo) (p : Option Addr) (k c : Nat) : (vo x).setIfInBounds 0 (.slice p k c) = vo { x with l := ⟨p, k, c⟩ } := by
 rw [zbg (by rw [zbv]; decide)]; exact zoz x ⟨p, k, c⟩
attribute [go_sem] zoz
@[go_sem] theorem yq5 (x : Vo) (p : Option Addr) (k c : Nat) : za2 (vo x) 0 #[.slice p k c] = vo { x with l := ⟨p, k, c⟩ } := zoz x ⟨p, k, c⟩
theorem z5b : Tryz.prog.cellsOf 29 = 2 := by kernel_rfl
section
open Go.WideShapes Go.ChangeShapes
variable {H : Type} {enc : TypeId × Value → H} {w : World} {base : Nat} {sp : Nat → Bool} {held : Bool}
theorem yfg {fuel : Nat} {cs : List Value} {x : DataW H × List MemPlace} (hl : cs.length = 2) (h : DataW.trod enc Tryz.prog w base sp held fuel 29 cs = some x) : ∃ a : Vo, cs = voL a ∧ (∃ l, SlE Elt w (sv a.l) l) := by
 obtain ⟨_, _, h0⟩ := zas (i := 0) zoy yak rfl h
 rw [show Tryz.prog.cellsOf 26 = 1 from by kernel_rfl] at h0
 obtain ⟨a0, e0, k0⟩ := z9c h0
 obtain ⟨_, _, h1⟩ := zas (i := 1) zoy yak rfl h
 rw [zce] at h1
 obtain ⟨a1, e1⟩ := zc3 h1
 refine ⟨⟨a0, a1⟩, ?_, k0⟩
 unfold voL
 have j0 := za6 cs 0 1
 rw [e0] at j0
 have j1 := za6 cs 1 1
 rw [e1] at j1
 have jl : cs.drop 2 = [] := List.drop_of_length_le (by omega)
 rw [show (1 + 1) = 2 from rfl, jl, List.append_nil] at j1
 rw [← List.drop_zero (l := cs)]
 rw [← j0]
 rw [show cs.drop (0 + 1) = cs.drop 1 from rfl, ← j1]
 try rfl
end
attribute [irreducible] vo
end
section
open Go.RowKit
theorem yau : (Tryz.prog.info? 113).map (fun i => (i.zero, i.size, i.bytes)) = some (some (.agg (aa zaa)), 100, 128) := by kernel_rfl
theorem Kaa : Known Tryz.prog Eaa 30 := ⟨Tryz.underlying30, .agg (aa zaa), 128, yau, by show ((aa zaa)).size = _; exact zmf _, by decide⟩
@[go_sem ↓] theorem yex (ρ : Operand → Value) (dst : Option Tmp) (x : Operand) (ty : TypeId) (pos : String) (after : Array Edge) (guard : Option (Nat × Bool)) (w : World) (hx : okA 100 (ρ x) = true) :
  (execOp ρ { dst, op := .buildSlice 30 1 #[(0, x)], type := ty, pos, after, guard }).run Tryz.prog w = .ok (.value (.slice (some ⟨w.heap.size, 0, none⟩) 1 1)) (w.alloc (.cells (zf8 (ρ x)) 113)) := by
 obtain ⟨c, hc, hn⟩ : ∃ c, ρ x = .agg c ∧ c.size = 100 := by
  unfold okA at hx
  split at hx
  ·
   rename_i c hc
   rw [Bool.and_eq_true, beq_iff_eq] at hx
   exact ⟨c, hc, hx.1⟩
  ·
   cases hx
 have hp : (1 * 100 > 2 ^ 24) = False := by simp
 have h0 : (1 * 100 = 0) = False := by simp
 unfold execOp
 simp only [Instr.buildSlice, Sem.run_bind, run_underlying Tryz.underlying30, Result.andThen_ok, Tryz.sizeOf113, hp, h0, if_false, yd9, Value.cells]
 simp only [List.map_toArray, List.map_cons, List.map_nil, hc, Instr.fill, Value.cells, hn, Nat.zero_mul]
 simp [zf8]
 rw [zii _ c (by simp [hn])]
 rfl
section
open Go.WideShapes Go.ChangeShapes
variable {H : Type} {enc : TypeId × Value → H} {w : World} {base : Nat} {sp : Nat → Bool} {held : Bool}
theorem ye3 {fuel : Nat} {v : Value} {x : DataW H × List MemPlace} (h : DataW.trod enc Tryz.prog w base sp held fuel 30 [v] = some x) : ∃ l : List Aa, SlE Eaa w v l :=
 zj5 Tryz.underlying30 zsr (fun _ cs _ h => ye8 (by obtain ⟨_, _, _, _, hl, _⟩ := DataW.trod_struct zji h; rw [hl, zsr]) h) h
theorem z87 {fuel : Nat} {cs : List Value} {x : DataW H × List MemPlace} (h : DataW.trod enc Tryz.prog w base sp held fuel 30 cs = some x) : ∃ s : SlV, cs = [sv s] ∧ ∃ l : List Aa, SlE Eaa w (sv s) l := by
 rcases Deep.open_slice Tryz.underlying30 h with ⟨h1, _⟩ | ⟨a', len', cap', _, _, _, _, h1, _⟩
 ·
  subst h1
  exact ⟨⟨none, 0, 0⟩, rfl, [], zbr _ _ _ _⟩
 ·
  subst h1
  exact ⟨⟨some a', len', cap'⟩, rfl, ye3 h⟩
end
end
section
open Go.RowKit
theorem yav : (Tryz.prog.info? 36).map (fun i => (i.zero, i.size, i.bytes)) = some (some (.agg (cc zcc)), 33, 40) := by kernel_rfl
theorem Kcc : Known Tryz.prog Ecc 32 := ⟨Tryz.underlying32, .agg (cc zcc), 40, yav, by show ((cc zcc)).size = _; exact za5 _, by decide⟩
@[go_sem ↓] theorem yh7 (ρ : Operand → Value) (dst : Option Tmp) (x lo : Operand) (ty : TypeId) (pos : String) (after : Array Edge) (guard : Option (Nat × Bool)) (w : World) :
  (execOp ρ { dst, op := .slice 32 x (some lo) none none, type := ty, pos, after, guard }).run Tryz.prog w = zg7 (z0f 33 (ρ x) (ρ lo)) w (zbn Tryz.prog ρ { dst, op := .slice 32 x (some lo) none none, type := ty, pos, after, guard } w) :=
 znx Tryz.underlying32 Tryz.sizeOf36 ρ dst x lo ty pos after guard w
section
open Go.WideShapes Go.ChangeShapes
variable {H : Type} {enc : TypeId × Value → H} {w : World} {base : Nat} {sp : Nat → Bool} {held : Bool}
theorem ye4 {fuel : Nat} {v : Value} {x : DataW H × List MemPlace} (h : DataW.trod enc Tryz.prog w base sp held fuel 32 [v] = some x) : ∃ l : List Ck, SlE Ecc w v l :=
 zj5 Tryz.underlying32 zcj (fun _ cs _ h => zf9 (by obtain ⟨_, _, _, _, hl, _⟩ := DataW.trod_struct zhp h; rw [hl, zcj]) h) h
theorem z9a {fuel : Nat} {cs : List Value} {x : DataW H × List MemPlace} (h : DataW.trod enc Tryz.prog w base sp held fuel 32 cs = some x) : ∃ s : SlV, cs = [sv s] ∧ ∃ l : List Ck, SlE Ecc w (sv s) l := by
 rcases Deep.open_slice Tryz.underlying32 h with ⟨h1, _⟩ | ⟨a', len', cap', _, _, _, _, h1, _⟩
 ·
  subst h1
  exact ⟨⟨none, 0, 0⟩, rfl, [], zbr _ _ _ _⟩
 ·
  subst h1
  exact ⟨⟨some a', len', cap'⟩, rfl, ye4 h⟩
end
end
section
open Go.RowKit
def lkL (x : Lk) : List Value := (cc x.s).toList ++ ((cc x.t).toList ++ ([num x.mask]))
def lk (x : Lk) : Array Value := (lkL x).toArray
theorem zqf (x : Lk) : (lk x).toList = lkL x := rfl
theorem yjo (x : Lk) : (lkL x).length = 67 := by simp [lkL, za5]
theorem zhk (x : Lk) : (lk x).size = 67 := by rw [← Array.length_toList, zqf, yjo]
theorem yjp (x : Lk) : ∀ v ∈ lkL x, v.oneCell' = true := by
 intro v hv
 unfold lkL at hv
 simp only [List.mem_append, List.mem_singleton] at hv
 rcases hv with hv | hv | rfl
 ·
  exact zgs _ v (by rw [zby] at hv; exact hv)
 ·
  exact zgs _ v (by rw [zby] at hv; exact hv)
 ·
  rfl
@[go_sem] theorem ytx (x : Lk) : okA 67 (.agg (lk x)) = true := by
 show ((lk x).size == 67 && (lk x).all (·.oneCell')) = true
 rw [show (lk x).all (·.oneCell') = true from zea (yjp x), zhk]; rfl
def zlk : Lk := ⟨zcc, zcc, 0⟩
theorem z2k (w : World) : (zeroValue 118).run Tryz.prog w = .ok (.agg (lk zlk)) w := by kernel_rfl
@[go_sem ↓] theorem ys7 (ρ : Operand → Value) (dst : Option Tmp) (x : Operand) (ty : TypeId) (pos : String) (after : Array Edge) (guard : Option (Nat × Bool)) (w : World) :
  (execOp ρ { dst, op := .load 118 x, type := ty, pos, after, guard }).run Tryz.prog w = zkh (ldA w (ρ x) 67) w (zbn Tryz.prog ρ { dst, op := .load 118 x, type := ty, pos, after, guard } w) :=
 zb2 Tryz.isAgg118 Tryz.sizeOf118 ρ dst x ty pos after guard w
@[go_sem ↓] theorem ysa (ρ : Operand → Value) (dst : Option Tmp) (x y : Operand) (ty : TypeId) (pos : String) (after : Array Edge) (guard : Option (Nat × Bool)) (w : World) :
  (execOp ρ { dst, op := .store 118 x y, type := ty, pos, after, guard }).run Tryz.prog w = zjo (wrA w (ρ x) 67 && okA 67 (ρ y)) (stA w (ρ x) (ρ y)) (zbn Tryz.prog ρ { dst, op := .store 118 x y, type := ty, pos, after, guard } w) :=
 zbm Tryz.sizeOf118 ρ dst x y ty pos after guard w
@[go_sem ↓] theorem yrl (ρ : Operand → Value) (dst : Option Tmp) (ty : TypeId) (pos : String) (after : Array Edge) (guard : Option (Nat × Bool)) (w : World) :
  (execOp ρ { dst, op := .alloc 118, type := ty, pos, after, guard }).run Tryz.prog w = .ok (.value (.pointer (some ⟨w.heap.size, 0, none⟩))) (w.alloc (.cells (lk zlk) 118)) := by
 unfold execOp
 simp only [Instr.alloc, Sem.run_bind, z2k, Result.andThen_ok]
 rfl
theorem zox : Tryz.prog.underlying 118 = some (.struct (Tryz.prog.fieldsOf 118)) := by kernel_rfl
theorem z0q : (Tryz.prog.fieldsOf 118).toList.map (fun f => (f.name, f.type, f.offset)) = [("S", 36, 0), ("T", 36, 33), ("Mask", 27, 66)] := by kernel_rfl
attribute [go_sem] zhk
theorem zve (x : Lk) : lkL x = ([]) ++ ((cc x.s).toList ++ ((cc x.t).toList ++ ([num x.mask]))) ∧ ([] : List Value).length = 0 := by
 constructor
 ·
  unfold lkL; simp
 ·
  rfl
theorem ymq {w : World} {b off : Nat} {x : Lk} (h : w.rangeAt b off (lkL x)) : ldA w (.pointer (some ⟨b, off + 0, none⟩)) 33 = some (cc x.s) := zca h (zve x).1 (zve x).2 (za5 _)
theorem ygt {w : World} {g : Nat} {t : TypeId} {fr : Nat × Nat} {x : Lk} (h : w.heap[g]? = some (.cells (lk x) t fr)) : ldA w (.pointer (some ⟨g, 0, none⟩)) 33 = some (cc x.s) := by have := ymq (x := x) (zai h); rwa [Nat.zero_add] at this
theorem zvf (x : Lk) : lkL x = ((cc x.s).toList) ++ ((cc x.t).toList ++ ([num x.mask])) ∧ ((cc x.s).toList : List Value).length = 33 := by
 constructor
 ·
  unfold lkL; simp
 ·
  simp [za5]
theorem ymr {w : World} {b off : Nat} {x : Lk} (h : w.rangeAt b off (lkL x)) : ldA w (.pointer (some ⟨b, off + 33, none⟩)) 33 = some (cc x.t) := zca h (zvf x).1 (zvf x).2 (za5 _)
theorem ygu {w : World} {g : Nat} {t : TypeId} {fr : Nat × Nat} {x : Lk} (h : w.heap[g]? = some (.cells (lk x) t fr)) : ldA w (.pointer (some ⟨g, 33, none⟩)) 33 = some (cc x.t) := by have := ymr (x := x) (zai h); rwa [Nat.zero_add] at this
theorem zta (x : Lk) : lkL x = ((cc x.s).toList ++ (cc x.t).toList) ++ ([num x.mask] ++ ([])) ∧ ((cc x.s).toList ++ (cc x.t).toList : List Value).length = 66 := by
 constructor
 ·
  unfold lkL; simp
 ·
  simp [za5]
theorem z6h {w : World} {b off : Nat} {x : Lk} (h : w.rangeAt b off (lkL x)) : w.cell? ⟨b, off + 66, none⟩ = some (num x.mask) := zbj h (zta x).1 (zta x).2
theorem z02 {w : World} {g : Nat} {t : TypeId} {fr : Nat × Nat} {x : Lk} (h : w.heap[g]? = some (.cells (lk x) t fr)) : w.cell? ⟨g, 66, none⟩ = some (num x.mask) := by have := z6h (x := x) (zai h); rwa [Nat.zero_add] at this
theorem ybe {w : World} {b off : Nat} {x : Lk} (h : w.rangeAt b off (lkL x)) : w.rangeAt b (off + 0) (ccL x.s) := by
 rw [← zby]; exact zcz h (zve x).1 (zve x).2
theorem zvg {w : World} {b off : Nat} {x : Lk} (h : w.rangeAt b off (lkL x)) : w.cell? ⟨b, off + 0, none⟩ = some (num x.s.epoch) := zfq (ybe h)
theorem zr7 {w : World} {g : Nat} {t : TypeId} {fr : Nat × Nat} {x : Lk} (h : w.heap[g]? = some (.cells (lk x) t fr)) : w.cell? ⟨g, 0, none⟩ = some (num x.s.epoch) := by have := zvg (x := x) (zai h); rwa [Nat.zero_add] at this
theorem zx7 {w : World} {b off : Nat} {x : Lk} (h : w.rangeAt b off (lkL x)) : ldA w (.pointer (some ⟨b, off + 1, none⟩)) 32 = some (rc x.s.root) := zfh (ybe h)
theorem zll {w : World} {g : Nat} {t : TypeId} {fr : Nat × Nat} {x : Lk} (h : w.heap[g]? = some (.cells (lk x) t fr)) : ldA w (.pointer (some ⟨g, 1, none⟩)) 32 = some (rc x.s.root) := by have := zx7 (x := x) (zai h); rwa [Nat.zero_add] at this
theorem ybf {w : World} {b off : Nat} {x : Lk} (h : w.rangeAt b off (lkL x)) : w.rangeAt b (off + 33) (ccL x.t) := by
 rw [← zby]; exact zcz h (zvf x).1 (zvf x).2
theorem zvh {w : World} {b off : Nat} {x : Lk} (h : w.rangeAt b off (lkL x)) : w.cell? ⟨b, off + 33, none⟩ = some (num x.t.epoch) := zfq (ybf h)
theorem zjt {w : World} {g : Nat} {t : TypeId} {fr : Nat × Nat} {x : Lk} (h : w.heap[g]? = some (.cells (lk x) t fr)) : w.cell? ⟨g, 33, none⟩ = some (num x.t.epoch) := by have := zvh (x := x) (zai h); rwa [Nat.zero_add] at this
theorem zx8 {w : World} {b off : Nat} {x : Lk} (h : w.rangeAt b off (lkL x)) : ldA w (.pointer (some ⟨b, off + 34, none⟩)) 32 = some (rc x.t.root) := zfh (ybf h)
theorem zlm {w : World} {g : Nat} {t : TypeId} {fr : Nat × Nat} {x : Lk} (h : w.heap[g]? = some (.cells (lk x) t fr)) : ldA w (.pointer (some ⟨g, 34, none⟩)) 32 = some (rc x.t.root) := by have := zx8 (x := x) (zai h); rwa [Nat.zero_add] at this
theorem zst : Tryz.prog.cellsOf 118 = 67 := by kernel_rfl
section
open Go.WideShapes Go.ChangeShapes
variable {H : Type} {enc : TypeId × Value → H} {w : World} {base : Nat} {sp : Nat → Bool} {held : Bool}
theorem yfc {fuel : Nat} {cs : List Value} {x : DataW H × List MemPlace} (hl : cs.length = 67) (h : DataW.trod enc Tryz.prog w base sp held fuel 118 cs = some x) : ∃ a : Lk, cs = lkL a := by
 obtain ⟨_, _, h0⟩ := zas (i := 0) zox z0q rfl h
 rw [zcj] at h0
 obtain ⟨a0, e0⟩ := zf9 (by rw [List.length_take, List.length_drop]; omega) h0
 rw [← zby] at e0
 obtain ⟨_, _, h1⟩ := zas (i := 1) zox z0q rfl h
 rw [zcj] at h1
 obtain ⟨a1, e1⟩ := zf9 (by rw [List.length_take, List.length_drop]; omega) h1
 rw [← zby] at e1
 obtain ⟨_, _, h2⟩ := zas (i := 2) zox z0q rfl h
 rw [zce] at h2
 obtain ⟨a2, e2⟩ := zc3 h2
 refine ⟨⟨a0, a1, a2⟩, ?_⟩
 unfold lkL
 have j0 := za6 cs 0 33
 rw [e0] at j0
 have j1 := za6 cs 33 33
 rw [e1] at j1
 have j2 := za6 cs 66 1
 rw [e2] at j2
 have jl : cs.drop 67 = [] := List.drop_of_length_le (by omega)
 rw [show (66 + 1) = 67 from rfl, jl, List.append_nil] at j2
 rw [← List.drop_zero (l := cs)]
 rw [← j0]
 rw [show cs.drop (0 + 33) = cs.drop 33 from rfl, ← j1]
 rw [show cs.drop (33 + 33) = cs.drop 66 from rfl, ← j2]
 try rfl
end
def Elk : Lie Lk := ⟨118, 67, lkL, by decide, yjo, yjp⟩
attribute [irreducible] lk
end
section
open Go.RowKit
theorem z0v : (Tryz.prog.info? 118).map (fun i => (i.zero, i.size, i.bytes)) = some (some (.agg (lk zlk)), 67, 88) := by kernel_rfl
theorem Klk : Known Tryz.prog Elk 31 := ⟨Tryz.underlying31, .agg (lk zlk), 88, z0v, by show ((lk zlk)).size = _; exact zhk _, by decide⟩
@[go_sem ↓] theorem yh8 (ρ : Operand → Value) (dst : Option Tmp) (x lo : Operand) (ty : TypeId) (pos : String) (after : Array Edge) (guard : Option (Nat × Bool)) (w : World) :
  (execOp ρ { dst, op := .slice 31 x (some lo) none none, type := ty, pos, after, guard }).run Tryz.prog w = zg7 (z0f 67 (ρ x) (ρ lo)) w (zbn Tryz.prog ρ { dst, op := .slice 31 x (some lo) none none, type := ty, pos, after, guard } w) :=
 znx Tryz.underlying31 Tryz.sizeOf118 ρ dst x lo ty pos after guard w
@[go_sem ↓] theorem yez (ρ : Operand → Value) (dst : Option Tmp) (x : Operand) (ty : TypeId) (pos : String) (after : Array Edge) (guard : Option (Nat × Bool)) (w : World) (hx : okA 67 (ρ x) = true) :
  (execOp ρ { dst, op := .buildSlice 31 1 #[(0, x)], type := ty, pos, after, guard }).run Tryz.prog w = .ok (.value (.slice (some ⟨w.heap.size, 0, none⟩) 1 1)) (w.alloc (.cells (zf8 (ρ x)) 118)) := by
 obtain ⟨c, hc, hn⟩ : ∃ c, ρ x = .agg c ∧ c.size = 67 := by
  unfold okA at hx
  split at hx
  ·
   rename_i c hc
   rw [Bool.and_eq_true, beq_iff_eq] at hx
   exact ⟨c, hc, hx.1⟩
  ·
   cases hx
 have hp : (1 * 67 > 2 ^ 24) = False := by simp
 have h0 : (1 * 67 = 0) = False := by simp
 unfold execOp
 simp only [Instr.buildSlice, Sem.run_bind, run_underlying Tryz.underlying31, Result.andThen_ok, Tryz.sizeOf118, hp, h0, if_false, z2k, Value.cells]
 simp only [List.map_toArray, List.map_cons, List.map_nil, hc, Instr.fill, Value.cells, hn, Nat.zero_mul]
 simp [zf8]
 rw [zii _ c (by simp [hn])]
 rfl
section
open Go.WideShapes Go.ChangeShapes
variable {H : Type} {enc : TypeId × Value → H} {w : World} {base : Nat} {sp : Nat → Bool} {held : Bool}
theorem ye5 {fuel : Nat} {v : Value} {x : DataW H × List MemPlace} (h : DataW.trod enc Tryz.prog w base sp held fuel 31 [v] = some x) : ∃ l : List Lk, SlE Elk w v l :=
 zj5 Tryz.underlying31 zst (fun _ cs _ h => yfc (by obtain ⟨_, _, _, _, hl, _⟩ := DataW.trod_struct zox h; rw [hl, zst]) h) h
theorem z9b {fuel : Nat} {cs : List Value} {x : DataW H × List MemPlace} (h : DataW.trod enc Tryz.prog w base sp held fuel 31 cs = some x) : ∃ s : SlV, cs = [sv s] ∧ ∃ l : List Lk, SlE Elk w (sv s) l := by
 rcases Deep.open_slice Tryz.underlying31 h with ⟨h1, _⟩ | ⟨a', len', cap', _, _, _, _, h1, _⟩
 ·
  subst h1
  exact ⟨⟨none, 0, 0⟩, rfl, [], zbr _ _ _ _⟩
 ·
  subst h1
  exact ⟨⟨some a', len', cap'⟩, rfl, ye5 h⟩
end
end
section
open Go.RowKit
theorem zu1 : (Tryz.prog.info? 27).map (fun i => (i.zero, i.size, i.bytes)) = some (some (num 0), 1, 8) := by kernel_rfl
theorem Knum : Known Tryz.prog Enum 25 := ⟨Tryz.underlying25, num 0, 8, zu1, rfl, by decide⟩
section
open Go.WideShapes Go.ChangeShapes
variable {H : Type} {enc : TypeId × Value → H} {w : World} {base : Nat} {sp : Nat → Bool} {held : Bool}
theorem z86 {fuel : Nat} {v : Value} {x : DataW H × List MemPlace} (h : DataW.trod enc Tryz.prog w base sp held fuel 25 [v] = some x) : ∃ l : List UInt64, SlE Enum w v l :=
 zj5 Tryz.underlying25 zce (fun _ _ _ h => zc3 h) h
theorem zsx {fuel : Nat} {cs : List Value} {x : DataW H × List MemPlace} (h : DataW.trod enc Tryz.prog w base sp held fuel 25 cs = some x) : ∃ s : SlV, cs = [sv s] ∧ ∃ l : List UInt64, SlE Enum w (sv s) l := by
 rcases Deep.open_slice Tryz.underlying25 h with ⟨h1, _⟩ | ⟨a', len', cap', _, _, _, _, h1, _⟩
 ·
  subst h1
  exact ⟨⟨none, 0, 0⟩, rfl, [], zbr _ _ _ _⟩
 ·
  subst h1
  exact ⟨⟨some a', len', cap'⟩, rfl, z86 h⟩
end
end
end Go.Proofs.YtkalofboioffiaaGreat
