import Derived.Test.YtkalofboioffiaaGreatQ14
namespace Go.Proofs.YtkalofboioffiaaGreat
open Go.RowKit
set_option maxRecDepth 200000
set_option maxHeartbeats 64000000
def bt (l : List UInt8) (i : Nat) : Int := ((l.getD i 0).toNat : Int)
def b8 (l : List UInt8) : List Value := l.map fun b => .int .u8 (b.toNat : Int)
open Go.RowKit
structure LaidG (W : World) (x : En) (g : Eg) : Prop where
 t : SlE Ene W (sv x.t.n) g.t
 bal : SlE Enum W (sv x.bal) g.bal
 v : SlE Elt W (sv x.v.l) g.v.l
 w : SlE Enum W (sv x.w) g.w
 late : SlE Eaa W (sv x.late) g.late
 k : SlE Elk W (sv x.k) g.k
 j : SlE Ecc W (sv x.j) g.j
 out : x.v.out = g.v.out
 fin : x.fin = g.fin
 now : x.now = g.now
theorem LaidG.keep {W W' : World} {x : En} {g : Eg} (b : Below W.heap.size W W') (h : LaidG W x g) : LaidG W' x g :=
 ⟨zad b h.t, zad b h.bal, zad b h.v, zad b h.w, zad b h.late, zad b h.k, zad b h.j, h.out, h.fin, h.now⟩
structure Gv (w W : World) (T : Nat) (x : En) (g : Eg) : Prop where
 box : W.heap[T]? = some (.cells (en x) 38 (0, 0))
 l : LaidG W x g
 g : Below w.heap.size w W
section
variable {w W W' : World} {T : Nat} {x : En} {g : Eg}
theorem Gv.keep (h : Gv w W T x g) (b : Below W.heap.size W W') : Gv w W' T x g := ⟨zab b h.box, h.l.keep b, zac h.g b⟩
theorem Gv.z (h : Gv w W T x g) : ldA W (.pointer (some ⟨T, 0, none⟩)) 42 = some (en x) := zag h.box (zbc x)
theorem Gv.lt (h : Gv w W T x g) : T < W.heap.size := (Array.getElem?_eq_some_iff.1 h.box).1
theorem Gv.zt (h : Gv w W T x g) : W.cell? ⟨T, 0, none⟩ = some (sv x.t.n) := zmq h.box
theorem Gv.zT (h : Gv w W T x g) : ldA W (.pointer (some ⟨T, 0, none⟩)) 1 = some (tr ⟨x.t.n⟩) := yf3 h.box
theorem Gv.zV (h : Gv w W T x g) : ldA W (.pointer (some ⟨T, 2, none⟩)) 2 = some (vo ⟨x.v.l, g.v.out⟩) := by rw [← h.l.out]; exact yf4 h.box
theorem Gv.zb (h : Gv w W T x g) : W.cell? ⟨T, 1, none⟩ = some (sv x.bal) := zmp h.box
theorem Gv.zv (h : Gv w W T x g) : W.cell? ⟨T, 2, none⟩ = some (sv x.v.l) := zmr h.box
theorem Gv.zw (h : Gv w W T x g) : W.cell? ⟨T, 4, none⟩ = some (sv x.w) := zoj h.box
theorem Gv.zl (h : Gv w W T x g) : W.cell? ⟨T, 5, none⟩ = some (sv x.late) := zka h.box
theorem Gv.zk (h : Gv w W T x g) : W.cell? ⟨T, 6, none⟩ = some (sv x.k) := zk1 h.box
theorem Gv.zj (h : Gv w W T x g) : W.cell? ⟨T, 7, none⟩ = some (sv x.j) := zk0 h.box
theorem Gv.zf (h : Gv w W T x g) : ldA W (.pointer (some ⟨T, 8, none⟩)) 33 = some (cc g.fin) := by rw [← h.l.fin]; exact z5m h.box
theorem Gv.zr (h : Gv w W T x g) : ldA W (.pointer (some ⟨T, 9, none⟩)) 32 = some (rc g.fin.root) := by rw [← h.l.fin]; exact zpj h.box
theorem Gv.zn (h : Gv w W T x g) : W.cell? ⟨T, 41, none⟩ = some (.int .u64 (g.now.toNat : Int)) := by rw [← h.l.now]; exact z5n h.box
theorem zpz (h : LaidG w x g) : Gv w (w.alloc (.cells (en x) 38)) w.heap.size x g := ⟨heap_alloc_last w _, h.keep below1, below1⟩
theorem yan (b : Below w.heap.size w W) (h : LaidG W x g) : Gv w (W.alloc (.cells (en x) 38)) W.heap.size x g := ⟨heap_alloc_last W _, h.keep below1, zac b below1⟩
end
def EgOk (f : Eg) (b : Bool) (w : World) (e : Ending) (w' : World) : Prop := ∃ x : En, e = .returned (.tuple #[.agg (en x), .bool b]) ∧ LaidG w' x f ∧ Below w.heap.size w w'
def EgEr (f : Eg) (n : Nat) (w : World) (e : Ending) (w' : World) : Prop := ∃ x : En, e = .returned (.tuple #[.agg (en x), .int .i64 (n : Int)]) ∧ LaidG w' x f ∧ Below w.heap.size w w'
structure zcv (g : Eg) : Prop where
 t : g.t.length ≤ 1000
 bal : g.bal.length ≤ 1000
 v : g.v.l.length ≤ 1000
 w : g.w.length ≤ 1000
 late : g.late.length ≤ 1000
 k : g.k.length ≤ 1000
 j : g.j.length ≤ 1000
def z8n : Eg := ⟨[], [], ⟨[], 0⟩, [], [], [], [], zcc, 0⟩
def fewG (g : Eg) : Bool := decide (g.t.length ≤ 16) && (decide (g.bal.length ≤ 12) && (decide (g.v.l.length ≤ 12) && (decide (g.w.length ≤ 16) && (decide (g.late.length ≤ 10) && (decide (g.k.length ≤ 20) && decide (g.j.length ≤ 24))))))
theorem zla {g : Eg} (h : fewG g = true) : zcv g ∧ g.j.length ≤ 24 := by
 unfold fewG at h
 simp only [Bool.and_eq_true, decide_eq_true_iff] at h
 obtain ⟨h1, h2, h3, h4, h5, h6, h7⟩ := h
 exact ⟨⟨by omega, by omega, by omega, by omega, by omega, by omega, by omega⟩, h7⟩
def bRt (v : Value) : Option Value :=
 match v with
 | .int .u8 n => some (.agg (za2 (rc zr) 0 #[.int .u8 n]))
 | _ => none
@[go_sem] theorem yss (n : Int) : bRt (.int .u8 n) = some (.agg (za2 (rc zr) 0 #[.int .u8 n])) := rfl
@[go_sem ↓] theorem yk2 (ρ : Operand → Value) (dst : Option Tmp) (x : Operand) (ty : TypeId) (pos : String) (after : Array Edge) (guard : Option (Nat × Bool)) (w : World) :
  (execOp ρ { dst, op := .build 34 #[(0, x)], type := ty, pos, after, guard }).run Tryz.prog w = zg7 (bRt (ρ x)) w (zbn Tryz.prog ρ { dst, op := .build 34 #[(0, x)], type := ty, pos, after, guard } w) := by
 cases h : bRt (ρ x) with
 | none => rfl
 | some v =>
  unfold bRt at h
  split at h
  ·
   rename_i n hx
   have hv := Option.some.inj h
   subst hv
   have hf : Instr.fill (fun i => some (i * 1, 1)) (rc zr) [(0, .int .u8 n)] = some (za2 (rc zr) 0 #[.int .u8 n]) := by
    rw [zxl _ (rc zr) 0 (.int .u8 n) [] (0 * 1) 1 rfl rfl (by rw [zav]; omega)]
    rfl
   unfold execOp
   simp only [Instr.build, Sem.run_bind, zi3, Result.andThen_ok, run_underlying Tryz.underlying34, Tryz.sizeOf5, List.map_toArray, List.map_cons, List.map_nil, hx, Value.cells, hf]
   rfl
  ·
   cases h
def r1 : Rt := zr.set 0 1
def r2 : Rt := zr.set 0 2
def r3 : Rt := zr.set 0 3
@[go_sem] theorem yt7 : za2 (rc zr) 0 #[.int .u8 1] = rc r1 := by kernel_rfl
open Go.RowKit
section
variable {P : Program} {ops : Array Oper} {E S1 : List Nat} {L1 L2 : World → World → Prop} {W : World} {Q : Exit → Act → World → Prop}
def z4u (ops : Array Oper) : Nat → Oper → Nat → Bool
 | 0, o, k => zdl o k
 | f + 1, o, k => zdl o k || o.after.any fun e => Region.binds .any e && ((ops[e.on]?).map fun o' => z4u ops f o' k).getD false
theorem zrk {listed : Array Bool} (hd : DC ops listed) {k : Nat} : ∀ (f : Nat) (o : Oper), (∀ e ∈ o.after, Region.binds .any e = true → listed.getD e.on false = true) → z4u ops f o k = true → listed.getD k false = true
 | 0, o, hall, h => by
  obtain ⟨e, he, hb, hon⟩ := zdw h
  rw [← hon]; exact hall e he hb
 | f + 1, o, hall, h => by
  unfold z4u at h
  rw [Bool.or_eq_true] at h
  rcases h with h | h
  ·
   obtain ⟨e, he, hb, hon⟩ := zdw h
   rw [← hon]; exact hall e he hb
  ·
   rw [Array.any_eq_true] at h
   obtain ⟨j, hj, h⟩ := h
   rw [Bool.and_eq_true] at h
   obtain ⟨hb, h⟩ := h
   have hl := hall _ (Array.getElem_mem hj) hb
   cases ho : ops[(o.after[j]).on]? with
   | none => rw [ho] at h; simp at h
   | some o' =>
    rw [ho] at h
    exact zrk hd f o' (fun e he hb => hd _ o' ho hl e he hb) (by simpa using h)
def zhs (ops : Array Oper) (S1 : List Nat) (o : Oper) : Bool := S1.all fun k => z4u ops 8 o k
def relE (L1 L2 : World → World → Prop) (ops : Array Oper) (S1 : List Nat) (o : Oper) (a b : World) : Prop := if zhs ops S1 o = true then L2 a b else L1 a b
def relC (L1 L2 : World → World → Prop) (S1 : List Nat) (i : Nat) (a b : World) : Prop := if S1.contains i = true then L1 a b else L2 a b
def pend (S1 : List Nat) (listed : Array Bool) : Bool := S1.any fun k => !listed.getD k true
theorem z39 {listed : Array Bool} {j : Nat} (h : pend S1 (listed.setIfInBounds j true) = true) : ∃ k ∈ S1, listed.getD k true = false ∧ k ≠ j := by
 unfold pend at h
 rw [List.any_eq_true] at h
 obtain ⟨k, hk, h⟩ := h
 refine ⟨k, hk, ?_⟩
 by_cases e : j = k
 ·
  subst e
  exfalso
  rcases Nat.lt_or_ge j listed.size with h' | h'
  ·
   simp [h'] at h
  ·
   rw [Array.setIfInBounds_eq_of_size_le h', Array.getD_eq_getD_getElem?, Array.getElem?_eq_none h'] at h
   cases h
 ·
  rw [getD_set_ne true e] at h
  exact ⟨by simpa using h, fun e2 => e e2.symm⟩
theorem z38 {listed : Array Bool} {j : Nat} (h : pend S1 (listed.setIfInBounds j true) = true) : pend S1 listed = true := by
 obtain ⟨k, hk, h, _⟩ := z39 h
 unfold pend
 rw [List.any_eq_true]
 exact ⟨k, hk, by rw [h]; rfl⟩
structure Two (L1 L2 : World → World → Prop) : Prop where
 r1 : ∀ w, L1 w w
 r2 : ∀ w, L2 w w
 t1 : ∀ {a b c : World}, L1 a b → L1 b c → L1 a c
 t2 : ∀ {a b c : World}, L2 a b → L2 b c → L2 a c
 le : ∀ {a b : World}, L1 a b → L2 a b
theorem Two.e {o : Oper} {a b : World} (T : Two L1 L2) (h : relE L1 L2 ops S1 o a b) : L2 a b := by
 unfold relE at h
 split at h
 ·
  exact h
 ·
  exact T.le h
def cls2 (L1 L2 : World → World → Prop) (S1 : List Nat) (W : World) (σ : List (Nat × World)) (i : Nat) (o : Oper) (w' : World) : Prop := relC L1 L2 S1 i W w' ∧ ∀ p ∈ σ, zdl o p.1 = true → relC L1 L2 S1 i p.2 w'
def Inv2 (L1 L2 : World → World → Prop) (ops : Array Oper) (S1 : List Nat) (W : World) (listed : Array Bool) (σ : List (Nat × World)) (w : World) : Prop := DC ops listed ∧ (L2 W w ∧ ∀ p ∈ σ, L2 p.2 w) ∧ (pend S1 listed = true → L1 W w ∧ ∀ p ∈ σ, L1 p.2 w)
theorem Inv2.cls {listed : Array Bool} {σ : List (Nat × World)} {w : World} (h : Inv2 L1 L2 ops S1 W listed σ w) {i : Nat} (hi : i ∈ Region.ready .any ops listed) (o : Oper) : cls2 L1 L2 S1 W σ i o w := by
 unfold cls2 relC
 by_cases hc : S1.contains i = true
 ·
  have hp : pend S1 listed = true := by
   unfold pend
   rw [List.any_eq_true]
   exact ⟨i, by simpa using hc, by rw [(mem_ready.1 hi).1]; rfl⟩
  obtain ⟨h1, h2⟩ := h.2.2 hp
  simp only [hc, if_true]
  exact ⟨h1, fun p hp _ => h2 p hp⟩
 ·
  simp only [hc]
  exact ⟨h.2.1.1, fun p hp _ => h.2.1.2 p hp⟩
theorem Inv2.step {listed : Array Bool} {σ : List (Nat × World)} {w : World} (h : Inv2 L1 L2 ops S1 W listed σ w) {j : Nat} (hj : j ∈ Region.ready .any ops listed) : Inv2 L1 L2 ops S1 W (listed.setIfInBounds j true) σ w := ⟨h.1.add hj, h.2.1, fun hp => h.2.2 (z38 hp)⟩
theorem Inv2.cons (T : Two L1 L2) {listed : Array Bool} {σ : List (Nat × World)} {w w' : World} (h : Inv2 L1 L2 ops S1 W listed σ w) {j : Nat} {oj : Oper} (ho : ops[j]? = some oj) (hj : j ∈ Region.ready .any ops listed) (hl : relE L1 L2 ops S1 oj w w') : Inv2 L1 L2 ops S1 W (listed.setIfInBounds j true) ((j, w') :: σ) w' := by
 refine ⟨h.1.add hj, ⟨T.t2 h.2.1.1 (T.e hl), fun p hp => ?_⟩, fun hp => ?_⟩
 ·
  rcases List.mem_cons.1 hp with rfl | hp
  ·
   exact T.r2 _
  ·
   exact T.t2 (h.2.1.2 p hp) (T.e hl)
 ·
  obtain ⟨k, hk, hkl, _⟩ := z39 hp
  have hn : zhs ops S1 oj = false := by
   rw [← Bool.not_eq_true]
   intro hw
   have h0 := List.all_eq_true.1 hw k hk
   obtain ⟨_, o', ho', hall⟩ := mem_ready.1 hj
   rw [ho] at ho'
   have e1 := Option.some.inj ho'
   subst e1
   have h1 := zrk h.1 8 oj hall h0
   rcases Nat.lt_or_ge k listed.size with h' | h'
   ·
    simp [h'] at h1 hkl; rw [hkl] at h1; cases h1
   ·
    simp [Array.getElem?_eq_none h'] at h1
  unfold relE at hl
  rw [hn, if_neg Bool.false_ne_true] at hl
  obtain ⟨h1, h2⟩ := h.2.2 (z38 hp)
  refine ⟨T.t1 h1 hl, fun p hp => ?_⟩
  rcases List.mem_cons.1 hp with rfl | hp
  ·
   exact T.r1 _
  ·
   exact T.t1 (h2 p hp) hl
def xOp2 (L1 L2 : World → World → Prop) (S1 : List Nat) (P : Program) (ops : Array Oper) (E : List Nat) (W : World) (i : Nat) (K : Act → World → List (Nat × World) → Prop) (a : Act) (w : World) (σ : List (Nat × World)) : Prop :=
 match ops[i]? with
 | none => K a w σ
 | some o =>
  if Region.wanted o (yielded ops a.tmps) = true then
   (if E.contains i = true then zd0 P o a w (fun v w' => relE L1 L2 ops S1 o w w' ∧ K (a.put o.dst v) w' ((i, w') :: σ)) else ∃ v, (∀ w', cls2 L1 L2 S1 W σ i o w' → zdu P o a w' v) ∧ K (a.put o.dst v) w σ)
  else K (a.put o.dst undef) w σ
theorem zf4 (T : Two L1 L2) {listed : Array Bool} {i : Nat} {K K' : Act → World → List (Nat × World) → Prop} {a : Act} {w : World} {σ : List (Nat × World)} (hi : Inv2 L1 L2 ops S1 W listed σ w) (hr : i ∈ Region.ready .any ops listed) (h : ∀ a' w' σ', Inv2 L1 L2 ops S1 W (listed.setIfInBounds i true) σ' w' → K a' w' σ' → K' a' w' σ') (hh : xOp2 L1 L2 S1 P ops E W i K a w σ) : xOp2 L1 L2 S1 P ops E W i K' a w σ := by
 unfold xOp2 at *
 split
 ·
  exact h _ _ _ (hi.step hr) (by simpa [*] using hh)
 ·
  rename_i o ho
  simp only [ho] at hh
  split
  ·
   rename_i hw
   rw [if_pos hw] at hh
   split
   ·
    rename_i he
    rw [if_pos he] at hh
    exact zco (fun v w' ⟨hl, hk⟩ => ⟨hl, h _ _ _ (hi.cons T ho hr hl) hk⟩) hh
   ·
    rename_i he
    rw [if_neg he] at hh
    obtain ⟨v, h1, h2⟩ := hh
    exact ⟨v, h1, h _ _ _ (hi.step hr) h2⟩
  ·
   rename_i hw
   rw [if_neg hw] at hh
   exact h _ _ _ (hi.step hr) hh
def wpX2 (L1 L2 : World → World → Prop) (S1 : List Nat) (P : Program) (ops : Array Oper) (E : List Nat) (W : World) (Q : Exit → Act → World → Prop) : Nat → Array Bool → Act → World → List (Nat × World) → Prop
 | 0, listed, a, w, _ => Region.ready .any ops listed = [] ∧ Q .normal a w
 | fuel + 1, listed, a, w, σ =>
  (Region.ready .any ops listed = [] → Q .normal a w) ∧
  ∀ i ∈ Region.ready .any ops listed, xOp2 L1 L2 S1 P ops E W i (fun a' w' σ' => wpX2 L1 L2 S1 P ops E W Q fuel (listed.setIfInBounds i true) a' w' σ') a w σ
theorem zel (T : Two L1 L2) : ∀ (fuel : Nat) (listed : Array Bool) (a : Act) (w : World) (σ : List (Nat × World)), Inv2 L1 L2 ops S1 W listed σ w → wpX2 L1 L2 S1 P ops E W Q fuel listed a w σ → wpAny P .any ops Q fuel listed a w
 | 0, _, _, _, _, _, h => h
 | fuel + 1, listed, a, w, σ, hi, h => ⟨h.1, fun i hm => by
  have := h.2 i hm
  unfold xOp2 at this
  unfold wpOp
  split
  ·
   rename_i ho
   simp only [ho] at this
   exact zel T fuel _ _ _ _ (hi.step hm) this
  ·
   rename_i o ho
   simp only [ho] at this
   split
   ·
    rename_i hw
    rw [if_pos hw] at this
    split at this
    ·
     exact .inl (zmd (fun v w' ⟨hl, hk⟩ => zel T fuel _ _ _ _ (hi.cons T ho hm hl) hk) this)
    ·
     obtain ⟨v, h1, h2⟩ := this
     refine .inl (zmd (K := fun u w' => u = v ∧ w' = w) (fun u w' ⟨e1, e2⟩ => by subst e1 e2; exact zel T fuel _ _ _ _ (hi.step hm) h2) ?_)
     have hv := h1 w (hi.cls hm o)
     unfold zdu at hv
     unfold zd0
     rcases hv with e1 | ⟨e1, e2⟩
     ·
      rw [e1]; exact ⟨rfl, rfl⟩
     ·
      rw [e1, e2]; exact ⟨rfl, rfl⟩
   ·
    rename_i hw
    rw [if_neg hw] at this
    exact zel T fuel _ _ _ _ (hi.step hm) this⟩
def YX2 (L1 L2 : World → World → Prop) (S1 : List Nat) (P : Program) (ops : Array Oper) (W : World) (i : Nat) (oi : Oper) (v : Value) (a : Act) (σ : List (Nat × World)) : Prop :=
 (Region.wanted oi (yielded ops a.tmps) = true ∧ ∀ w', cls2 L1 L2 S1 W σ i oi w' → zdu P oi a w' v) ∨ (Region.wanted oi (yielded ops a.tmps) = false ∧ v = undef)
theorem YX2.xOp {i : Nat} {oi : Oper} {v : Value} {a : Act} {w : World} {σ : List (Nat × World)} (ho : ops[i]? = some oi) (hE : E.contains i = false ∨ Region.wanted oi (yielded ops a.tmps) = false) (h : YX2 L1 L2 S1 P ops W i oi v a σ) {K : Act → World → List (Nat × World) → Prop} (hk : K (a.put oi.dst v) w σ) : xOp2 L1 L2 S1 P ops E W i K a w σ := by
 unfold xOp2
 simp only [ho]
 rcases h with ⟨hw, h⟩ | ⟨hw, rfl⟩
 ·
  rw [if_pos hw]
  rcases hE with hE | hE
  ·
   rw [if_neg (by rw [hE]; exact Bool.false_ne_true)]; exact ⟨v, h, hk⟩
  ·
   rw [hw] at hE; cases hE
 ·
  rw [if_neg (by rw [hw]; exact Bool.false_ne_true)]; exact hk
theorem YX2.of_same {i : Nat} {oi : Oper} {v : Value} {a a' : Act} {σ σ' : List (Nat × World)} (hy : YX2 L1 L2 S1 P ops W i oi v a σ) (he : execOp a'.eval oi = execOp a.eval oi)
  (hw : Region.wanted oi (yielded ops a'.tmps) = Region.wanted oi (yielded ops a.tmps)) (hs : ∀ w', cls2 L1 L2 S1 W σ' i oi w' → cls2 L1 L2 S1 W σ i oi w') : YX2 L1 L2 S1 P ops W i oi v a' σ' := by
 unfold YX2 zdu at *
 rw [he, hw]
 exact hy.imp (fun ⟨h1, h2⟩ => ⟨h1, fun w' h => h2 w' (hs w' h)⟩) id
theorem zw5 {σ : List (Nat × World)} {i : Nat} {o : Oper} {p : Nat × World} {w' : World} (h : cls2 L1 L2 S1 W (p :: σ) i o w') : cls2 L1 L2 S1 W σ i o w' := ⟨h.1, fun q hq hw => h.2 q (List.mem_cons_of_mem _ hq) hw⟩
theorem ze8 {σ : List (Nat × World)} {i : Nat} {o : Oper} {p : Nat × World} {w' : World} (hn : zdl o p.1 = false) (h : cls2 L1 L2 S1 W σ i o w') : cls2 L1 L2 S1 W (p :: σ) i o w' := by
 refine ⟨h.1, fun q hq hw => ?_⟩
 rcases List.mem_cons.1 hq with rfl | hq
 ·
  rw [hn] at hw; cases hw
 ·
  exact h.2 q hq hw
theorem yi5 {i j : Nat} {oi oj : Oper} {v : Value} (hj : ops[j]? = some oj) (hap : oi.apart ops oj = true)
  (hsi : ∀ cs b, oi.op ≠ .select cs b) (hsj : ∀ cs b, oj.op ≠ .select cs b) {K : Act → World → List (Nat × World) → Prop} {a : Act} {w : World} {σ : List (Nat × World)}
  (hy : YX2 L1 L2 S1 P ops W i oi v a σ) (h : xOp2 L1 L2 S1 P ops E W j K (a.put oi.dst v) w σ) :
  xOp2 L1 L2 S1 P ops E W j (fun a' w' σ' => YX2 L1 L2 S1 P ops W i oi v a' σ' ∧ K (a'.put oi.dst v) w' σ') a w σ := by
 obtain ⟨h1, h2, h3⟩ := Oper.apart_spec hap
 have keep : ∀ (u : Value) (σ' : List (Nat × World)), (∀ w', cls2 L1 L2 S1 W σ' i oi w' → cls2 L1 L2 S1 W σ i oi w') → YX2 L1 L2 S1 P ops W i oi v (a.put oj.dst u) σ' := fun u σ' hs =>
  hy.of_same (execOp_put oi hsi a oj.dst u h3) (wanted_put oi a oj.dst u h3) hs
 unfold xOp2 at *
 simp only [hj] at *
 rw [wanted_put oj a oi.dst v h1] at h
 split
 ·
  rename_i hw
  rw [if_pos hw] at h
  split
  ·
   rename_i he
   rw [if_pos he] at h
   unfold zd0 at h ⊢
   rw [execOp_put oj hsj a oi.dst v h1] at h
   exact zco (P := P) (o := oj) (a := a) (w := w) (fun u w' ⟨hl, hk⟩ => ⟨hl, keep u _ (fun _ => zw5), by rw [← Act.put_comm a v u h2]; exact hk⟩) h
  ·
   rename_i he
   rw [if_neg he] at h
   obtain ⟨u, hu, hn⟩ := h
   refine ⟨u, fun w' hw' => ?_, keep u _ (fun _ h => h), by rw [← Act.put_comm a v u h2]; exact hn⟩
   have := hu w' hw'
   unfold zdu at *
   rwa [execOp_put oj hsj a oi.dst v h1] at this
 ·
  rename_i hw
  rw [if_neg hw] at h
  exact ⟨keep _ _ (fun _ h => h), by rw [← Act.put_comm a v undef h2]; exact h⟩
theorem zjk (T : Two L1 L2) {i : Nat} {oi : Oper} {v : Value} (hi : ops[i]? = some oi) (hsel : ∀ (j : Nat) (o : Oper) cs b, ops[j]? = some o → o.op ≠ .select cs b) :
  ∀ (fuel : Nat) (listed : Array Bool) (a : Act) (w : World) (σ : List (Nat × World)), Inv2 L1 L2 ops S1 W listed σ w →
   (∀ j oj, ops[j]? = some oj → j ≠ i → listed.getD j true = false → (∀ e ∈ oj.after, Region.binds .any e = true → e.on ≠ i) → oi.apart ops oj = true) →
   i ∈ Region.ready .any ops listed → (E.contains i = false ∨ Region.wanted oi (yielded ops a.tmps) = false) → YX2 L1 L2 S1 P ops W i oi v a σ →
   wpX2 L1 L2 S1 P ops E W Q fuel (listed.setIfInBounds i true) (a.put oi.dst v) w σ → wpX2 L1 L2 S1 P ops E W Q (fuel + 1) listed a w σ := by
 intro fuel
 induction fuel with
 | zero =>
  intro listed a w σ _ _ hr hE hy H
  refine ⟨fun h => (by rw [h] at hr; cases hr), fun j hj => ?_⟩
  by_cases hji : j = i
  ·
   subst hji; exact hy.xOp hi hE H
  ·
   have := ready_mono hj hji
   rw [H.1] at this
   cases this
 | succ fuel ih =>
  intro listed a w σ hv hfree hr hE hy H
  refine ⟨fun h => (by rw [h] at hr; cases hr), fun j hj => ?_⟩
  by_cases hji : j = i
  ·
   subst hji; exact hy.xOp hi hE H
  ·
   have h1 := H.2 j (ready_mono hj hji)
   obtain ⟨hjun, oj, hoj, hall⟩ := mem_ready.1 hj
   have hnot := zg2 hr hall
   have hap := hfree j oj hoj hji hjun hnot
   have h2 := yi5 hoj hap (fun cs b => hsel i oi cs b hi) (fun cs b => hsel j oj cs b hoj) hy h1
   have hfree' : ∀ k ok, ops[k]? = some ok → k ≠ i → (listed.setIfInBounds j true).getD k true = false →
     (∀ e ∈ ok.after, Region.binds .any e = true → e.on ≠ i) → oi.apart ops ok = true := fun k ok hk hki hun hno => by
    refine hfree k ok hk hki ?_ hno
    by_cases hjk : j = k
    ·
     subst hjk; exact hjun
    ·
     rw [getD_set_ne true hjk] at hun; exact hun
   have hkeep : ∀ u, Region.wanted oi (yielded ops (a.put oj.dst u).tmps) = Region.wanted oi (yielded ops a.tmps) := fun u => wanted_put oi a oj.dst u (Oper.apart_spec hap).2.2
   have h3 : xOp2 L1 L2 S1 P ops E W j (fun a' w' σ' => (E.contains i = false ∨ Region.wanted oi (yielded ops a'.tmps) = false) ∧ YX2 L1 L2 S1 P ops W i oi v a' σ' ∧ wpX2 L1 L2 S1 P ops E W Q fuel ((listed.setIfInBounds i true).setIfInBounds j true) (a'.put oi.dst v) w' σ') a w σ := by
    unfold xOp2 at h2 ⊢
    simp only [hoj] at h2 ⊢
    split
    ·
     rename_i hw
     rw [if_pos hw] at h2
     split
     ·
      rename_i he
      rw [if_pos he] at h2
      exact zco (fun u w' ⟨hl, hk⟩ => ⟨hl, by rw [hkeep u]; exact hE, hk⟩) h2
     ·
      rename_i he
      rw [if_neg he] at h2
      obtain ⟨u, hu, hk⟩ := h2
      exact ⟨u, hu, by rw [hkeep u]; exact hE, hk⟩
    ·
     rename_i hw
     rw [if_neg hw] at h2
     exact ⟨by rw [hkeep undef]; exact hE, h2⟩
   refine zf4 T hv hj (fun a' w' σ' hv' h4 => ih (listed.setIfInBounds j true) a' w' σ' hv' hfree' (ready_mono hr (Ne.symm hji)) h4.1 h4.2.1 ?_) h3
   rw [Array.setIfInBounds_comm _ _ hji]
   exact h4.2.2
theorem z2d (_ : Two L1 L2) {i : Nat} {oi : Oper} (hi : ops[i]? = some oi) (hE : E.contains i = true) (hc : zdz ops E = true) (hsel : ∀ (j : Nat) (o : Oper) cs b, ops[j]? = some o → o.op ≠ .select cs b) :
  ∀ (fuel : Nat) (listed : Array Bool) (a : Act) (w : World) (σ : List (Nat × World)), Inv2 L1 L2 ops S1 W listed σ w → DC ops listed →
   (∀ j oj, ops[j]? = some oj → j ≠ i → listed.getD j true = false → (∀ e ∈ oj.after, Region.binds .any e = true → e.on ≠ i) → oi.apart ops oj = true) →
   i ∈ Region.ready .any ops listed → Region.wanted oi (yielded ops a.tmps) = true →
   zd0 P oi a w (fun v w' => relE L1 L2 ops S1 oi w w' ∧ wpX2 L1 L2 S1 P ops E W Q fuel (listed.setIfInBounds i true) (a.put oi.dst v) w' ((i, w') :: σ)) → wpX2 L1 L2 S1 P ops E W Q (fuel + 1) listed a w σ := by
 intro fuel
 induction fuel with
 | zero =>
  intro listed a w σ _ _ _ hr hw H
  refine ⟨fun h => (by rw [h] at hr; cases hr), fun j hj => ?_⟩
  by_cases hji : j = i
  ·
   subst hji; unfold xOp2; simp only [hi]; rw [if_pos hw, if_pos hE]; exact H
  ·
   obtain ⟨v, w', _, h0⟩ := zi7 H
   have := ready_mono hj hji
   rw [h0.1] at this
   cases this
 | succ fuel ih =>
  intro listed a w σ hv hdc hfree hr hw H
  refine ⟨fun h => (by rw [h] at hr; cases hr), fun j hj => ?_⟩
  by_cases hji : j = i
  ·
   subst hji; unfold xOp2; simp only [hi]; rw [if_pos hw, if_pos hE]; exact H
  ·
   obtain ⟨hjun, oj, hoj, hall⟩ := mem_ready.1 hj
   have hnot := zg2 hr hall
   have hap := hfree j oj hoj hji hjun hnot
   obtain ⟨a1, a2, a3⟩ := Oper.apart_spec hap
   have hsi := fun cs b => hsel i oi cs b hi
   have hsj := fun cs b => hsel j oj cs b hoj
   have hjE : ¬ E.contains j = true := fun h => hji (zkw hdc E hc j i (by simpa using h) (by simpa using hE) hj hr)
   have hnw : zdl oj i = false := by
    cases h : zdl oj i with
    | false => rfl
    | true => obtain ⟨e, he, hb, hon⟩ := zdw h; exact absurd hon (hnot e he hb)
   have hfree' : ∀ k ok, ops[k]? = some ok → k ≠ i → (listed.setIfInBounds j true).getD k true = false →
     (∀ e ∈ ok.after, Region.binds .any e = true → e.on ≠ i) → oi.apart ops ok = true := fun k ok hk hki hun hno => by
    refine hfree k ok hk hki ?_ hno
    by_cases hjk : j = k
    ·
     subst hjk; exact hjun
    ·
     rw [getD_set_ne true hjk] at hun; exact hun
   have hr' := ready_mono hr (Ne.symm hji)
   have next : ∀ u, (∀ v w', wpX2 L1 L2 S1 P ops E W Q (fuel + 1) (listed.setIfInBounds i true) (a.put oi.dst v) w' ((i, w') :: σ) → wpX2 L1 L2 S1 P ops E W Q fuel ((listed.setIfInBounds i true).setIfInBounds j true) ((a.put oi.dst v).put oj.dst u) w' ((i, w') :: σ)) →
     wpX2 L1 L2 S1 P ops E W Q (fuel + 1) (listed.setIfInBounds j true) (a.put oj.dst u) w σ := fun u hn => by
    refine ih (listed.setIfInBounds j true) (a.put oj.dst u) w σ (hv.step hj) (hdc.add hj) hfree' hr' (by rw [wanted_put oi a oj.dst u a3]; exact hw) ?_
    have H2 := zco (fun v w' ⟨hl, hk⟩ => (⟨hl, hn v w' hk⟩ : relE L1 L2 ops S1 oi w w' ∧ _)) H
    unfold zd0 at H2 ⊢
    rw [execOp_put oi hsi a oj.dst u a3]
    refine zco (P := P) (o := oi) (a := a) (w := w) (fun v w' ⟨hl, hk⟩ => ⟨hl, ?_⟩) H2
    rw [Array.setIfInBounds_comm _ _ hji, ← Act.put_comm a v u a2]
    exact hk
   obtain ⟨v0, w0, hl0, H0⟩ := zi7 H
   have h1 := H0.2 j (ready_mono hj hji)
   unfold xOp2 at h1 ⊢
   simp only [hoj] at h1 ⊢
   rw [wanted_put oj a oi.dst v0 a1] at h1
   split
   ·
    rename_i hwj
    rw [if_pos hwj, if_neg hjE] at h1
    obtain ⟨c, hc1, hc2⟩ := h1
    have hval : ∀ w', cls2 L1 L2 S1 W σ j oj w' → zdu P oj a w' c := fun w' hw' => by
     have := hc1 w' (ze8 hnw hw')
     unfold zdu at *
     rwa [execOp_put oj hsj a oi.dst v0 a1] at this
    refine ⟨c, hval, next c fun v w' hk => ?_⟩
    have h2 := hk.2 j (ready_mono hj hji)
    unfold xOp2 at h2
    simp only [hoj] at h2
    rw [wanted_put oj a oi.dst v a1, if_pos hwj, if_neg hjE] at h2
    obtain ⟨c', hc1', hc2'⟩ := h2
    have e : c' = c := by
     refine zri ?_ (hval w (hv.cls hj oj))
     have := hc1' w (ze8 hnw (hv.cls hj oj))
     unfold zdu at *
     rwa [execOp_put oj hsj a oi.dst v a1] at this
    subst e
    exact hc2'
   ·
    rename_i hwj
    refine next undef fun v w' hk => ?_
    have h2 := hk.2 j (ready_mono hj hji)
    unfold xOp2 at h2
    simp only [hoj] at h2
    rw [wanted_put oj a oi.dst v a1, if_neg hwj] at h2
    exact h2
def wpXT (L1 L2 : World → World → Prop) (S1 : List Nat) (P : Program) (ops : Array Oper) (E : List Nat) (W : World) (Q : Exit → Act → World → Prop) : Nat → List Oper → Act → World → List (Nat × World) → Prop
 | _, [], a, w, _ => Q .normal a w
 | k, o :: rest, a, w, σ =>
  if Region.wanted o (yielded ops a.tmps) = true then
   (if E.contains k = true then zd0 P o a w (fun v w' => relE L1 L2 ops S1 o w w' ∧ wpXT L1 L2 S1 P ops E W Q (k + 1) rest (a.put o.dst v) w' ((k, w') :: σ)) else ∃ v, (∀ w', cls2 L1 L2 S1 W σ k o w' → zdu P o a w' v) ∧ wpXT L1 L2 S1 P ops E W Q (k + 1) rest (a.put o.dst v) w σ)
  else wpXT L1 L2 S1 P ops E W Q (k + 1) rest (a.put o.dst undef) w σ
theorem z4v (T : Two L1 L2) (hs : Region.noSelect ops = true) (hc : zdz ops E = true) : ∀ (l : List Oper) (k : Nat) (listed : Array Bool) (a : Act) (w : World) (σ : List (Nat × World)), Inv2 L1 L2 ops S1 W listed σ w → DC ops listed → (∀ j, l[j]? = ops[k + j]?) →
  Region.lexFrom .any ops l.length k listed = true → wpXT L1 L2 S1 P ops E W Q k l a w σ → wpX2 L1 L2 S1 P ops E W Q l.length listed a w σ
 | [], _, _, _, _, _, _, _, _, hB, h => ⟨by simpa [Region.lexFrom] using hB, h⟩
 | o :: l, k, listed, a, w, σ, hv, hd, hl, hB, h => by
  have h0 : ops[k]? = some o := by simpa using (hl 0).symm
  simp only [List.length_cons, Region.lexFrom, Bool.and_eq_true] at hB
  obtain ⟨⟨hr, hf⟩, hB'⟩ := hB
  have hr' : k ∈ Region.ready .any ops listed := by simpa using hr
  have next : ∀ a' w' σ', Inv2 L1 L2 ops S1 W (listed.setIfInBounds k true) σ' w' → wpXT L1 L2 S1 P ops E W Q (k + 1) l a' w' σ' → wpX2 L1 L2 S1 P ops E W Q l.length (listed.setIfInBounds k true) a' w' σ' := fun a' w' σ' hv' h' =>
   z4v T hs hc l (k + 1) _ a' w' σ' hv' (hd.add hr') (fun j => by have := hl (j + 1); simpa [Nat.add_assoc, Nat.add_comm 1 j] using this) hB' h'
  unfold wpXT at h
  split at h
  ·
   rename_i hw
   split at h
   ·
    rename_i hE
    exact z2d T h0 hE hc (Region.noSelect_spec hs) l.length listed a w σ hv hd (Region.free_spec h0 hf) hr' hw (zco (fun v w' ⟨hl', hk⟩ => ⟨hl', next _ _ _ (hv.cons T h0 hr' hl') hk⟩) h)
   ·
    rename_i hE
    obtain ⟨v, h1, h2⟩ := h
    exact zjk T h0 (Region.noSelect_spec hs) l.length listed a w σ hv (Region.free_spec h0 hf) hr' (.inl (by simpa using hE)) (.inl ⟨hw, h1⟩) (next _ _ _ (hv.step hr') h2)
  ·
   rename_i hw
   have hw' : Region.wanted o (yielded ops a.tmps) = false := by simpa using hw
   exact zjk T h0 (Region.noSelect_spec hs) l.length listed a w σ hv (Region.free_spec h0 hf) hr' (.inr hw') (.inr ⟨hw', rfl⟩) (next _ _ _ (hv.step hr') h)
def La (B : Nat) (a b : World) : Prop := B ≤ a.heap.size → Lq a b
def Lb (B : Nat) (a b : World) : Prop := B ≤ a.heap.size → (Below B a b ∧ B ≤ b.heap.size)
theorem two (B : Nat) : Two (La B) (Lb B) :=
 {
  r1 := fun w _ => Lq.refl w
  r2 := fun _ hw => ⟨Below.refl _ _, hw⟩
  t1 := fun h k hw => (h hw).trans (k (Nat.le_trans hw (h hw).size))
  t2 := fun h k hw => ⟨(h hw).1.trans (k (h hw).2).1, (k (h hw).2).2⟩
  le := fun h hw => ⟨(h hw).mono hw, Nat.le_trans hw (h hw).size⟩ }
theorem zeu (B : Nat) (S1 E : List Nat) {id : Nat} {a : Act} {w : World} {l : List Oper} (hm : P.follows .mixedOrders = true) (hB : Region.lexB .any l.toArray = true) (hc : zdz l.toArray E = true)
  (h : wpXT (La B) (Lb B) S1 P l.toArray E w.drew Q 0 l a w.drew []) : (Code.region id l.toArray true).wp P Q a w := by
 simp only [Region.lexB, Bool.and_eq_true] at hB
 refine wp_region_any hm ?_
 have hd : DC l.toArray (Array.replicate l.toArray.size false) := fun k o _ hl => by
  rw [Array.getD_eq_getD_getElem?, Array.getElem?_replicate] at hl
  split at hl <;> simp at hl
 have hI : Inv2 (La B) (Lb B) l.toArray S1 w.drew (Array.replicate l.toArray.size false) [] w.drew := ⟨hd, ⟨(two B).r2 _, by simp⟩, fun _ => ⟨(two B).r1 _, by simp⟩⟩
 refine zel (two B) (S1 := S1) (E := E) (W := w.drew) _ _ _ _ [] hI ?_
 have := z4v (P := P) (two B) (S1 := S1) (W := w.drew) (Q := Q) hB.1 hc l 0 (Array.replicate l.toArray.size false) a w.drew [] hI hd (by simp) (by simpa using hB.2) h
 simpa using this
theorem zdk {B : Nat} {o : Oper} {w w' : World} (h : Below w.heap.size w w') : relE (La B) (Lb B) ops S1 o w w' := by
 unfold relE
 split
 ·
  exact (two B).le fun _ => h
 ·
  exact fun _ => h
theorem zd5 {B : Nat} {o : Oper} {w w' : World} (ho : zhs ops S1 o = true) (h : Below B w w') : relE (La B) (Lb B) ops S1 o w w' := by
 unfold relE
 rw [if_pos ho]
 exact fun hw => ⟨h, Nat.le_trans hw h.size⟩
theorem zo2 {k : Nat} {a : Act} {w : World} {σ : List (Nat × World)} (h : Q .normal a w) : wpXT L1 L2 S1 P ops E W Q k [] a w σ := h
theorem zrn {k : Nat} {o : Oper} {rest : List Oper} {a : Act} {w : World} {σ : List (Nat × World)} (hE : E.contains k = false) (hp : zdj o.op = true) (C : World → Prop) (h0 : ∀ w', cls2 L1 L2 S1 W σ k o w' → C w')
  (h : wpQuiet P ops C (fun a' => wpXT L1 L2 S1 P ops E W Q (k + 1) rest a' w σ) [o] a) : wpXT L1 L2 S1 P ops E W Q k (o :: rest) a w σ := by
 unfold wpXT
 unfold wpQuiet at h
 split
 ·
  rename_i hw
  rw [if_pos hw] at h
  rw [if_neg (by rw [hE]; exact Bool.false_ne_true)]
  obtain ⟨v, h1, h2⟩ := h
  refine ⟨v, fun w' hw' => ?_, h2⟩
  have := h1 w' (h0 w' hw')
  unfold Oper.quietAt at this
  unfold zdu
  have hne := fun f args w'' => zet (P := P) hp (ρ := a.eval) (w := w') (w' := w'') (f := f) (args := args)
  generalize (execOp a.eval o).run P w' = r at *
  cases r with
  | ok n w1 =>
   cases n <;> simp only [Oper.quietUpon] at this
   case value u => obtain ⟨rfl, rfl⟩ := this; exact .inl rfl
   case skip => obtain ⟨rfl, rfl⟩ := this; exact .inr ⟨rfl, rfl⟩
   case enter f args => exact absurd rfl (hne f args w1)
  | halt x w1 => simp only [Oper.quietUpon] at this
 ·
  rename_i hw
  rw [if_neg hw] at h
  exact h
theorem zem {B : Nat} {k : Nat} {o : Oper} {rest : List Oper} {a : Act} {w : World} {σ : List (Nat × World)} (hE : E.contains k = false) (hS : S1.contains k = true) (hp : zdj o.op = true) (hW : B ≤ W.heap.size)
  (h : wpQuiet P ops (fun w' => ∃ p : Wd W, w' = p.w) (fun a' => wpXT (La B) (Lb B) S1 P ops E W Q (k + 1) rest a' w σ) [o] a) : wpXT (La B) (Lb B) S1 P ops E W Q k (o :: rest) a w σ :=
 zrn hE hp _ (fun w' hw' => ⟨⟨w', by have := hw'.1; unfold relC at this; rw [if_pos hS] at this; exact this hW⟩, rfl⟩) h
theorem zcf {B : Nat} {k : Nat} {o : Oper} {rest : List Oper} {a : Act} {w : World} {σ : List (Nat × World)} (hE : E.contains k = false) (hS : S1.contains k = false) (hp : zdj o.op = true) (hW : B ≤ W.heap.size)
  (h : wpQuiet P ops (fun w' => ∃ p : WdB B W, w' = p.w) (fun a' => wpXT (La B) (Lb B) S1 P ops E W Q (k + 1) rest a' w σ) [o] a) : wpXT (La B) (Lb B) S1 P ops E W Q k (o :: rest) a w σ :=
 zrn hE hp _ (fun w' hw' => ⟨⟨w', by have := hw'.1; unfold relC at this; rw [hS, if_neg Bool.false_ne_true] at this; exact (this hW).1⟩, rfl⟩) h
theorem zi0 {B : Nat} {k : Nat} {o : Oper} {rest : List Oper} {a : Act} {w : World} {σ : List (Nat × World)} (hE : E.contains k = true) (hw : Region.wanted o (yielded ops a.tmps) = true) {f : FuncId} {xs : Array Operand} {ts : Array TypeId}
  (ho : o.op = .call { callee := .value (.func f), args := xs, argTypes := ts }) (hen : ∀ args w, (callFunc f args).run P w = .ok (.enter f args) w)
  (args : Array Value) (hargs : xs.toList.map a.eval = args.toList) (h : Calls P f args w fun e w' => ∃ v, e = .returned v ∧ Below w.heap.size w w' ∧ wpXT (La B) (Lb B) S1 P ops E W Q (k + 1) rest (a.put o.dst v) w' ((k, w') :: σ)) : wpXT (La B) (Lb B) S1 P ops E W Q k (o :: rest) a w σ := by
 unfold wpXT
 rw [if_pos hw, if_pos hE]
 unfold zd0
 have hargs : xs.map a.eval = args := Array.toList_inj.1 (by rw [Array.toList_map]; exact hargs)
 subst hargs
 have : (execOp a.eval o).run P w = .ok (.enter f (xs.map a.eval)) w := by
  unfold execOp
  simp [ho, resolve, invoke, Act.eval, Deferred.ofValue, hen]
 rw [this]
 exact Calls.mono h fun e w' ⟨v, he, hb, hk⟩ => ⟨v, he, zdk hb, hk⟩
theorem zws {k : Nat} {o : Oper} {rest : List Oper} {a : Act} {w : World} {σ : List (Nat × World)} (hE : E.contains k = true) (hw : Region.wanted o (yielded ops a.tmps) = true) (v : Value) (w' : World)
  (hrun : (execOp a.eval o).run P w = .ok (.value v) w') (hl : relE L1 L2 ops S1 o w w') (h : wpXT L1 L2 S1 P ops E W Q (k + 1) rest (a.put o.dst v) w' ((k, w') :: σ)) : wpXT L1 L2 S1 P ops E W Q k (o :: rest) a w σ := by
 unfold wpXT
 rw [if_pos hw, if_pos hE]
 unfold zd0
 rw [hrun]
 exact ⟨hl, h⟩
theorem zjl {k : Nat} {o : Oper} {rest : List Oper} {a : Act} {w : World} {σ : List (Nat × World)} (hE : E.contains k = true) (hw : Region.wanted o (yielded ops a.tmps) = true) (w' : World)
  (hrun : (execOp a.eval o).run P w = .ok .skip w') (hl : relE L1 L2 ops S1 o w w') (h : wpXT L1 L2 S1 P ops E W Q (k + 1) rest (a.put o.dst undef) w' ((k, w') :: σ)) : wpXT L1 L2 S1 P ops E W Q k (o :: rest) a w σ := by
 unfold wpXT
 rw [if_pos hw, if_pos hE]
 unfold zd0
 rw [hrun]
 exact ⟨hl, h⟩
attribute [irreducible] wpXT
end
end Go.Proofs.YtkalofboioffiaaGreat
