import Derived.Test.YtmihlihlpdkdcaaGreatS02
import Derived.Test.YtmihlihlpdkdcaaGreatS08
import Derived.Test.YtmihlihlpdkdcaaGreatS01
import Derived.OrdersIn
import Derived.RangeFuncCalls
import Derived.Deep.Cut
import Derived.Deep.CutRange
import Derived.Deep.RegionLaw
import Derived.Laws.Cover3
import Derived.Test.YtmihlihlpdkdcaaGreatS03
import Derived.Test.YtmihlihlpdkdcaaGreatS07
namespace Go.Proofs.YtmihlihlpdkdcaaGreat
open Go.RowKit
set_option maxRecDepth 200000
set_option maxHeartbeats 64000000
open Go.RowKit
section
variable {α : Type} {E : Lie α} {P : Program}
structure zh3 (P : Program) (E : Lie α) (T : TypeId) (bytes : Nat) : Prop where
 slice : P.underlying T = some (.slice E.t)
 info : ∃ z : Value, (P.info? E.t).map (fun i => (i.zero, i.size, i.bytes)) = some (some z, E.n, bytes) ∧ z.cells.size = E.n
theorem zgj {T : TypeId} {bytes : Nat} (K : zh3 P E T bytes) (w : World) (ty : TypeId) (base : Nat) (v : Value) (k : List α) (hown : OwnE E w base v k) (vx : Value) (l : List α) (hsl : SlE E w vx l) (hlen : k.length + l.length ≤ maxLen) (hb : (k.length + l.length) * bytes ≤ 140737488355328) (hbase : base ≤ w.heap.size) :
  ∃ v' w', (Builtin.append_ #[T, T] ty #[v, vx]).run P w = .ok v' w' ∧ OwnE E w' base v' (k ++ l) ∧ Gr w v w' v' := by
 obtain ⟨z, hinf, hzs⟩ := K.info
 obtain ⟨i, hi, hz0, hz1, hz2⟩ := info_parts hinf
 by_cases hn : l = []
 ·
  subst hn
  obtain ⟨p, cap, rfl, _⟩ := hsl
  exact ⟨v, w, zh1 (P := P) (w := w) base T ty E.t i E.n K.slice hi v k.length _ hown p cap, by simpa using hown, Gr.refl _ _⟩
 ·
  obtain ⟨b, off, cap, rfl, _, _, hc⟩ := zce hsl (List.length_pos_iff.2 hn)
  obtain ⟨v', w', h1, h2, h3, _, h5⟩ := run_append_own_at (P := P) w base T ty E.t i z E.n bytes K.slice hi hz0 hz1 hz2 hzs E.pos v k.length (zam E k) hown ⟨b, off, none⟩ l.length cap (zam E l) (za6 E l) (zpk hc) (zsl E l) hlen hb hbase
  refine ⟨v', w', h1, ?_, h3, h5.imp id fun e q hq => ?_⟩
  ·
   unfold OwnE; rw [List.length_append, zd4]; exact h2
  ·
   rw [e] at hq; injection hq with hq; omega
theorem zcr {T : TypeId} {bytes : Nat} (K : zh3 P E T bytes) (w : World) {ops : Array Oper} {rest : List Oper} {o : Oper} {a : Act} {Q : Exit → Act → World → Prop} (hgd : o.guard = none) (s x : Operand)
  (ho : o.op = .call { callee := .builtin .append, args := #[s, x], argTypes := #[T, T] })
  (base : Nat) (v : Value) (k : List α) (hs : a.eval s = v) (hown : OwnE E w base v k) (vx : Value) (l : List α) (hx : a.eval x = vx) (hsl : SlE E w vx l)
  (hlen : k.length + l.length ≤ maxLen) (hb : (k.length + l.length) * bytes ≤ 140737488355328) (hbase : base ≤ w.heap.size)
  (h : ∀ v' w', OwnE E w' base v' (k ++ l) → Gr w v w' v' → wpList P ops Q rest (a.put o.dst v') w') : wpList P ops Q (o :: rest) a w :=
 wpList_plain hgd fun K' hK => by
  obtain ⟨v', w', hr, h2, h3⟩ := zgj K w o.type base v k hown vx l hsl hlen hb hbase
  unfold Oper.wp execOp
  simp only [ho, resolve, invoke, builtin, Sem.run_bind, Sem.run_pure, Result.andThen_ok, List.map_toArray, List.map_cons, List.map_nil, hs, hx, hr]
  exact hK _ _ (h v' w' h2 h3)
end
open Go.RowKit
section
variable {P : Program} {ops : Array Oper} {E S1 : List Nat} {W : World} {Q : Exit → Act → World → Prop}
theorem zq2 {α : Type} {Ea : Lie α} {T : TypeId} {bytes : Nat} (K : zh3 P Ea T bytes) {B k : Nat} {o : Oper} {rest : List Oper} {a : Act} {w : World} {σ : List (Nat × World)} (hE : E.contains k = true) (hgd : o.guard = none) (hS : zhe ops S1 o = true) (s x : Operand)
  (ho : o.op = .call { callee := .builtin .append, args := #[s, x], argTypes := #[T, T] })
  (base : Nat) (v : Value) (ks : List α) (hs : a.eval s = v) (hown : OwnE Ea w base v ks) (vx : Value) (l : List α) (hx : a.eval x = vx) (hsl : SlE Ea w vx l)
  (hlen : ks.length + l.length ≤ maxLen) (hb : (ks.length + l.length) * bytes ≤ 140737488355328) (hbase : base ≤ w.heap.size) (hB : B ≤ base)
  (h : ∀ v' w', OwnE Ea w' base v' (ks ++ l) → Gr w v w' v' → wpXT (La B) (Lb B) S1 P ops E W Q (k + 1) rest (a.put o.dst v') w' ((k, w') :: σ)) : wpXT (La B) (Lb B) S1 P ops E W Q k (o :: rest) a w σ := by
 obtain ⟨v', w', hr, h2, h3⟩ := zgj K w o.type base v ks hown vx l hsl hlen hb hbase
 refine zlp hE (by simp [Region.wanted, hgd]) v' w' ?_ (zb7 hS ((h3.own hown hbase).mono hB)) (h v' w' h2 h3)
 unfold execOp
 simp only [ho, resolve, invoke, builtin, Sem.run_bind, Sem.run_pure, Result.andThen_ok, List.map_toArray, List.map_cons, List.map_nil, hs, hx, hr]
end
theorem zsk {B : Nat} {w : World} {b o n : Nat} {c : Array Value} (h : ldA w (.pointer (some ⟨b, o, none⟩)) n = some c) (hb : b < B) (p : WdB B w.drew) : ldA p.w (.pointer (some ⟨b, o, none⟩)) n = some c :=
 (zqo p.h b o n hb).trans (by rw [zu2]; exact h)
theorem z4x {B : Nat} {w : World} {b o : Nat} {v : Value} (h : w.cell? ⟨b, o, none⟩ = some v) (hb : b < B) (p : WdB B w.drew) : p.w.cell? ⟨b, o, none⟩ = some v := (p.h.cell (p := ⟨b, o, none⟩) hb).trans h
theorem zmo {w : World} {b n : Nat} {c c' : Array Value} {t : TypeId} (hg : w.heap[b]? = some (.cells c t (0, 0))) (hn : c.size = n) (hn' : c'.size = n) : ldA (stA w (.pointer (some ⟨b, 0, none⟩)) (.agg c')) (.pointer (some ⟨b, 0, none⟩)) n = some c' :=
 ze2 (zay hg hn) hn'
theorem z48 {α : Type} {E : Lie α} {w : World} {v x : Value} {l : List α} {b : Nat} (h : SlE E w v l) (hb : v.ownBlock ≠ some b) : SlE E (stA w (.pointer (some ⟨b, 0, none⟩)) x) v l :=
 zdm h (by rw [zjj]; exact Nat.le_refl _) (fun k _ hk => zcp (fun e => hb (by rw [hk, e])))
theorem yig {α : Type} {E : Lie α} {w : World} {v x : Value} {l : List α} {b o : Nat} (h : SlE E w v l) (hb : v.ownBlock ≠ some b) : SlE E (w.setCell ⟨b, o, none⟩ x) v l :=
 zdm h (Nat.le_of_eq (by simp [World.setCell])) (fun k _ hk => by rw [Below.heap_setCell _ _ _ _ (fun e => hb (by rw [hk, e]))])
open Go.RowKit
section
variable {P : Program} {ops : Array Oper} {E S1 : List Nat} {W : World} {Q : Exit → Act → World → Prop} {B fuel : Nat} {listed : Array Bool} {a : Act} {w : World} {σ : List (Nat × World)}
def GX (B : Nat) (S1 : List Nat) (P : Program) (ops : Array Oper) (E : List Nat) (W : World) (Q : Exit → Act → World → Prop) (fuel : Nat) (listed : Array Bool) (a : Act) (w : World) (σ : List (Nat × World)) : Prop :=
 Inv2 (La B) (Lb B) ops S1 W listed σ w → wpX2 (La B) (Lb B) S1 P ops E W Q fuel listed a w σ
theorem GX.start {l : List Oper} (h : GX B S1 P l.toArray E w.drew Q l.length (Array.replicate l.length false) a w.drew []) : wpAny P .any l.toArray Q l.toArray.size (Array.replicate l.toArray.size false) a w.drew := by
 have hd : DC l.toArray (Array.replicate l.length false) := fun k o _ hl => by
  rw [Array.getD_eq_getD_getElem?, Array.getElem?_replicate] at hl
  split at hl <;> simp at hl
 have hI : Inv2 (La B) (Lb B) l.toArray S1 w.drew (Array.replicate l.length false) [] w.drew := ⟨hd, ⟨(two B).r2 _, by simp⟩, fun _ => ⟨(two B).r1 _, by simp⟩⟩
 have := zep (two B) (S1 := S1) (E := E) (W := w.drew) l.length _ _ _ [] hI (h hI)
 rw [List.size_toArray]
 exact this
theorem zhq (B : Nat) (S1 E : List Nat) {id : Nat} {l : List Oper} (hm : P.follows .mixedOrders = true) (h : GX B S1 P l.toArray E w.drew Q l.length (Array.replicate l.length false) a w.drew []) : (Code.region id l.toArray true).wp P Q a w :=
 wp_region_any hm h.start
theorem zqu {l : List Oper} {i : Nat} {o : Oper} {rest : List Oper} (h : l.drop i = o :: rest) : l.toArray[i]? = some o := by
 rw [List.getElem?_toArray, ← Nat.add_zero i, ← List.getElem?_drop, h]
 rfl
theorem GX.nil (hr : Region.ready .any ops listed = []) (h : Q .normal a w) : GX B S1 P ops E W Q 0 listed a w σ := fun _ => ⟨hr, h⟩
theorem GX.takeC {i : Nat} {o : Oper} (hi : ops[i]? = some o) (hE : E.contains i = false) (hs : Region.noSelect ops = true) (hr : (Region.ready .any ops listed).contains i = true) (hf : Region.free .any ops listed i = true) (hp : zdj o.op = true) (C : World → Prop) (h0 : ∀ w', cls2 (La B) (Lb B) S1 W σ i o w' → C w')
  (h : wpQuiet P ops C (fun a' => GX B S1 P ops E W Q fuel (listed.setIfInBounds i true) a' w σ) [o] a) : GX B S1 P ops E W Q (fuel + 1) listed a w σ := by
 intro hv
 have hr' : i ∈ Region.ready .any ops listed := by simpa using hr
 unfold wpQuiet at h
 by_cases hw : Region.wanted o (yielded ops a.tmps) = true
 ·
  rw [if_pos hw] at h
  obtain ⟨v, h1, h2⟩ := h
  refine zi8 (two B) hi (Region.noSelect_spec hs) fuel listed a w σ hv (Region.free_spec hi hf) hr' (.inl hE) (.inl ⟨hw, fun w' hw' => ?_⟩) (h2 (hv.step hr'))
  have := h1 w' (h0 w' hw')
  unfold Oper.quietAt at this
  unfold zdt
  have hne := fun f args w'' => zer (P := P) hp (ρ := a.eval) (w := w') (w' := w'') (f := f) (args := args)
  generalize (execOp a.eval o).run P w' = r at *
  cases r with
  | ok n w1 =>
   cases n <;> simp only [Oper.quietUpon] at this
   case value u => obtain ⟨rfl, rfl⟩ := this; exact .inl rfl
   case skip => obtain ⟨rfl, rfl⟩ := this; exact .inr ⟨rfl, rfl⟩
   case enter f args => exact absurd rfl (hne f args w1)
  | halt x w1 => simp only [Oper.quietUpon] at this
 ·
  rw [if_neg hw] at h
  have hw' : Region.wanted o (yielded ops a.tmps) = false := by simpa using hw
  exact zi8 (two B) hi (Region.noSelect_spec hs) fuel listed a w σ hv (Region.free_spec hi hf) hr' (.inr hw') (.inr ⟨hw', rfl⟩) (h (hv.step hr'))
theorem GX.take1 (i : Nat) {l : List Oper} {o : Oper} {tl : List Oper} (hi : l.drop i = o :: tl) (hE : E.contains i = false) (hS : S1.contains i = true) (hs : Region.noSelect l.toArray = true) (hr : (Region.ready .any l.toArray listed).contains i = true) (hf : Region.free .any l.toArray listed i = true) (hp : zdj o.op = true) (hW : B ≤ W.heap.size)
  (h : wpQuiet P l.toArray (fun w' => ∃ p : Wd W, w' = p.w) (fun a' => GX B S1 P l.toArray E W Q fuel (listed.setIfInBounds i true) a' w σ) [o] a) : GX B S1 P l.toArray E W Q (fuel + 1) listed a w σ :=
 GX.takeC (zqu hi) hE hs hr hf hp _ (fun w' hw' => ⟨⟨w', by have := hw'.1; unfold relC at this; rw [if_pos hS] at this; exact this hW⟩, rfl⟩) h
theorem GX.take2 (i : Nat) {l : List Oper} {o : Oper} {tl : List Oper} (hi : l.drop i = o :: tl) (hE : E.contains i = false) (hS : S1.contains i = false) (hs : Region.noSelect l.toArray = true) (hr : (Region.ready .any l.toArray listed).contains i = true) (hf : Region.free .any l.toArray listed i = true) (hp : zdj o.op = true) (hW : B ≤ W.heap.size)
  (h : wpQuiet P l.toArray (fun w' => ∃ p : WdB B W, w' = p.w) (fun a' => GX B S1 P l.toArray E W Q fuel (listed.setIfInBounds i true) a' w σ) [o] a) : GX B S1 P l.toArray E W Q (fuel + 1) listed a w σ :=
 GX.takeC (zqu hi) hE hs hr hf hp _ (fun w' hw' => ⟨⟨w', by have := hw'.1; unfold relC at this; rw [hS, if_neg Bool.false_ne_true] at this; exact (this hW).1⟩, rfl⟩) h
theorem GX.branch1 (i : Nat) (hr : Region.ready .any ops listed = [i]) (h : xOp2 (La B) (Lb B) S1 P ops E W i (fun a' w' σ' => GX B S1 P ops E W Q fuel (listed.setIfInBounds i true) a' w' σ') a w σ) : GX B S1 P ops E W Q (fuel + 1) listed a w σ := by
 intro hv
 refine ⟨fun e => (by rw [hr] at e; cases e), fun k hk => ?_⟩
 have hk' := hk
 rw [hr, List.mem_singleton] at hk
 subst hk
 exact zf6 (two B) hv hk' (fun _ _ _ hv' hk => hk hv') h
theorem GX.branch2 (i j : Nat) (hr : Region.ready .any ops listed = [i, j]) (h : xOp2 (La B) (Lb B) S1 P ops E W i (fun a' w' σ' => GX B S1 P ops E W Q fuel (listed.setIfInBounds i true) a' w' σ') a w σ) (h' : xOp2 (La B) (Lb B) S1 P ops E W j (fun a' w' σ' => GX B S1 P ops E W Q fuel (listed.setIfInBounds j true) a' w' σ') a w σ) : GX B S1 P ops E W Q (fuel + 1) listed a w σ := by
 intro hv
 refine ⟨fun e => (by rw [hr] at e; cases e), fun k hk => ?_⟩
 have hk' := hk
 rw [hr, List.mem_cons, List.mem_singleton] at hk
 rcases hk with rfl | rfl
 ·
  exact zf6 (two B) hv hk' (fun _ _ _ hv' hk => hk hv') h
 ·
  exact zf6 (two B) hv hk' (fun _ _ _ hv' hk => hk hv') h'
variable {K : Act → World → List (Nat × World) → Prop}
theorem zby {i : Nat} {lo : List Oper} {o : Oper} {tl : List Oper} (hi : lo.drop i = o :: tl) (hE : E.contains i = true) (hw : Region.wanted o (yielded lo.toArray a.tmps) = true) (v : Value) (w' : World) (hrun : (execOp a.eval o).run P w = .ok (.value v) w') (hl : relE (La B) (Lb B) lo.toArray S1 o w w') (h : K (a.put o.dst v) w' ((i, w') :: σ)) : xOp2 (La B) (Lb B) S1 P lo.toArray E W i K a w σ := by
 unfold xOp2
 simp only [zqu hi]
 rw [if_pos hw, if_pos hE]
 unfold zee
 rw [hrun]
 exact ⟨hl, h⟩
theorem ze4 {i : Nat} {lo : List Oper} {o : Oper} {tl : List Oper} (hi : lo.drop i = o :: tl) (hE : E.contains i = true) (hw : Region.wanted o (yielded lo.toArray a.tmps) = true) (w' : World) (hrun : (execOp a.eval o).run P w = .ok .skip w') (hl : relE (La B) (Lb B) lo.toArray S1 o w w') (h : K (a.put o.dst undef) w' ((i, w') :: σ)) : xOp2 (La B) (Lb B) S1 P lo.toArray E W i K a w σ := by
 unfold xOp2
 simp only [zqu hi]
 rw [if_pos hw, if_pos hE]
 unfold zee
 rw [hrun]
 exact ⟨hl, h⟩
theorem zeu {i : Nat} {lo : List Oper} {o : Oper} {tl : List Oper} (hi : lo.drop i = o :: tl) (hE : E.contains i = true) (hw : Region.wanted o (yielded lo.toArray a.tmps) = true) {f : FuncId} {xs : Array Operand} {ts : Array TypeId}
  (ho : o.op = .call { callee := .value (.func f), args := xs, argTypes := ts }) (hen : ∀ args w, (callFunc f args).run P w = .ok (.enter f args) w)
  (args : Array Value) (hargs : xs.toList.map a.eval = args.toList) (h : Calls P f args w fun e w' => ∃ v, e = .returned v ∧ Below w.heap.size w w' ∧ K (a.put o.dst v) w' ((i, w') :: σ)) : xOp2 (La B) (Lb B) S1 P lo.toArray E W i K a w σ := by
 unfold xOp2
 simp only [zqu hi]
 rw [if_pos hw, if_pos hE]
 unfold zee
 have hargs : xs.map a.eval = args := Array.toList_inj.1 (by rw [Array.toList_map]; exact hargs)
 subst hargs
 have : (execOp a.eval o).run P w = .ok (.enter f (xs.map a.eval)) w := by
  unfold execOp
  simp [ho, resolve, invoke, Act.eval, Deferred.ofValue, hen]
 rw [this]
 exact Calls.mono h fun e w' ⟨v, he, hb, hk⟩ => ⟨v, he, zbm hb, hk⟩
theorem zhb {α : Type} {Ea : Lie α} {T : TypeId} {bytes : Nat} (Kb : zh3 P Ea T bytes) {i : Nat} {lo : List Oper} {o : Oper} {tl : List Oper} (hi : lo.drop i = o :: tl) (hE : E.contains i = true) (hgd : o.guard = none) (s x : Operand)
  (ho : o.op = .call { callee := .builtin .append, args := #[s, x], argTypes := #[T, T] })
  (base : Nat) (v : Value) (ks : List α) (hs : a.eval s = v) (hown : OwnE Ea w base v ks) (vx : Value) (l : List α) (hx : a.eval x = vx) (hsl : SlE Ea w vx l)
  (hlen : ks.length + l.length ≤ maxLen) (hb : (ks.length + l.length) * bytes ≤ 140737488355328) (hbase : base ≤ w.heap.size) (hl : ∀ w', Below base w w' → relE (La B) (Lb B) lo.toArray S1 o w w')
  (h : ∀ v' w', OwnE Ea w' base v' (ks ++ l) → Gr w v w' v' → K (a.put o.dst v') w' ((i, w') :: σ)) : xOp2 (La B) (Lb B) S1 P lo.toArray E W i K a w σ := by
 obtain ⟨v', w', hr, h2, h3⟩ := zgj Kb w o.type base v ks hown vx l hsl hlen hb hbase
 refine zby hi hE (by simp [Region.wanted, hgd]) v' w' ?_ (hl w' (h3.own hown hbase)) (h v' w' h2 h3)
 unfold execOp
 simp only [ho, resolve, invoke, builtin, Sem.run_bind, Sem.run_pure, Result.andThen_ok, List.map_toArray, List.map_cons, List.map_nil, hs, hx, hr]
attribute [irreducible] GX
end
section
open Go.RowKit
def bkL (x : Bk) : List Value := (rc x.root).toList ++ ((rc x.parent).toList ++ ([num x.slot] ++ ([num x.just])))
def bk (x : Bk) : Array Value := (bkL x).toArray
theorem z9q (x : Bk) : (bk x).toList = bkL x := rfl
theorem ypr (x : Bk) : (bkL x).length = 66 := by simp [bkL, zal]
theorem ziw (x : Bk) : (bk x).size = 66 := by rw [← Array.length_toList, z9q, ypr]
theorem yqo (x : Bk) : ∀ v ∈ bkL x, v.oneCell' = true := by
 intro v hv
 unfold bkL at hv
 simp only [List.mem_append, List.mem_singleton] at hv
 rcases hv with hv | hv | rfl | rfl
 ·
  exact zfz _ v hv
 ·
  exact zfz _ v hv
 ·
  rfl
 ·
  rfl
@[go_sem] theorem yuj (x : Bk) : okA 66 (.agg (bk x)) = true := by
 show ((bk x).size == 66 && (bk x).all (·.oneCell')) = true
 rw [show (bk x).all (·.oneCell') = true from ze6 (yqo x), ziw]; rfl
def zbk : Bk := ⟨zr, zr, 0, 0⟩
theorem yb7 (w : World) : (zeroValue 69).run Tryz.prog w = .ok (.agg (bk zbk)) w := by kernel_rfl
@[go_sem ↓] theorem yt7 (ρ : Operand → Value) (dst : Option Tmp) (x : Operand) (ty : TypeId) (pos : String) (after : Array Edge) (guard : Option (Nat × Bool)) (w : World) :
  (execOp ρ { dst, op := .load 69 x, type := ty, pos, after, guard }).run Tryz.prog w = zh7 (ldA w (ρ x) 66) w (za4 Tryz.prog ρ { dst, op := .load 69 x, type := ty, pos, after, guard } w) :=
 zbh Tryz.isAgg69 Tryz.sizeOf69 ρ dst x ty pos after guard w
@[go_sem ↓] theorem ys2 (ρ : Operand → Value) (dst : Option Tmp) (x y : Operand) (ty : TypeId) (pos : String) (after : Array Edge) (guard : Option (Nat × Bool)) (w : World) :
  (execOp ρ { dst, op := .store 69 x y, type := ty, pos, after, guard }).run Tryz.prog w = zh8 (wrA w (ρ x) 66 && okA 66 (ρ y)) (stA w (ρ x) (ρ y)) (za4 Tryz.prog ρ { dst, op := .store 69 x y, type := ty, pos, after, guard } w) :=
 za7 Tryz.sizeOf69 ρ dst x y ty pos after guard w
@[go_sem ↓] theorem yr3 (ρ : Operand → Value) (dst : Option Tmp) (ty : TypeId) (pos : String) (after : Array Edge) (guard : Option (Nat × Bool)) (w : World) :
  (execOp ρ { dst, op := .alloc 69, type := ty, pos, after, guard }).run Tryz.prog w = .ok (.value (.pointer (some ⟨w.heap.size, 0, none⟩))) (w.alloc (.cells (bk zbk) 69)) := by
 unfold execOp
 simp only [Instr.alloc, Sem.run_bind, yb7, Result.andThen_ok]
 rfl
def places_bk : List (Nat × Nat) := [(0, 32), (32, 32), (64, 1), (65, 1)]
theorem yby : ∀ w : World, ((Tryz.prog.fieldsOf 69).mapM (m := Sem) fun f => do pure (f.offset, ← Go.sizeOf f.type)).run Tryz.prog w = .ok places_bk.toArray w := fun _ => by kernel_rfl
theorem yhe : Tryz.prog.underlying 69 = some (.struct (Tryz.prog.fieldsOf 69)) := by kernel_rfl
@[go_sem ↓] theorem yr2 (ρ : Operand → Value) (dst : Option Tmp) (p : Nat × Operand) (ps : List (Nat × Operand)) (ty : TypeId) (pos : String) (after : Array Edge) (guard : Option (Nat × Bool)) (w : World) :
  (execOp ρ { dst, op := .build 69 (p :: ps).toArray, type := ty, pos, after, guard }).run Tryz.prog w = zgr ((zhi places_bk (bk zbk) ((p.1, ρ p.2) :: ps.map fun p => (p.1, ρ p.2))).map .agg) w (za4 Tryz.prog ρ { dst, op := .build 69 (p :: ps).toArray, type := ty, pos, after, guard } w) :=
 zb2 yb7 yhe yby ρ dst (p :: ps).toArray ty pos after guard w
attribute [go_sem] places_bk ziw
theorem zi7 (x : Bk) : bkL x = ([]) ++ ((rc x.root).toList ++ ((rc x.parent).toList ++ ([num x.slot] ++ ([num x.just])))) ∧ ([] : List Value).length = 0 := by
 constructor
 ·
  unfold bkL; simp
 ·
  rfl
theorem z8a {w : World} {b off : Nat} {x : Bk} (h : w.rangeAt b off (bkL x)) : ldA w (.pointer (some ⟨b, off + 0, none⟩)) 32 = some (rc x.root) := zcs h (zi7 x).1 (zi7 x).2 (zal _)
theorem zrx {w : World} {g : Nat} {t : TypeId} {fr : Nat × Nat} {x : Bk} (h : w.heap[g]? = some (.cells (bk x) t fr)) : ldA w (.pointer (some ⟨g, 0, none⟩)) 32 = some (rc x.root) := by have := z8a (x := x) (zah h); rwa [Nat.zero_add] at this
theorem z2c (x : Bk) (y : Rt) : zat (bk x) 0 (rc y) = bk { x with root := y } := by
 rw [zau (c := bk x) (zi7 x).1 (zi7 x).2 (by simp [zal])]
 simp [bk, bkL]
theorem zgd (x : Bk) : bkL x = ((rc x.root).toList) ++ ((rc x.parent).toList ++ ([num x.slot] ++ ([num x.just]))) ∧ ((rc x.root).toList : List Value).length = 32 := by
 constructor
 ·
  unfold bkL; simp
 ·
  simp [zal]
theorem zxa {w : World} {b off : Nat} {x : Bk} (h : w.rangeAt b off (bkL x)) : ldA w (.pointer (some ⟨b, off + 32, none⟩)) 32 = some (rc x.parent) := zcs h (zgd x).1 (zgd x).2 (zal _)
theorem zv0 {w : World} {g : Nat} {t : TypeId} {fr : Nat × Nat} {x : Bk} (h : w.heap[g]? = some (.cells (bk x) t fr)) : ldA w (.pointer (some ⟨g, 32, none⟩)) 32 = some (rc x.parent) := by have := zxa (x := x) (zah h); rwa [Nat.zero_add] at this
theorem zwl (x : Bk) (y : Rt) : zat (bk x) 32 (rc y) = bk { x with parent := y } := by
 rw [zau (c := bk x) (zgd x).1 (zgd x).2 (by simp [zal])]
 simp [bk, bkL]
theorem zji (x : Bk) : bkL x = ((rc x.root).toList ++ (rc x.parent).toList) ++ ([num x.slot] ++ ([num x.just])) ∧ ((rc x.root).toList ++ (rc x.parent).toList : List Value).length = 64 := by
 constructor
 ·
  unfold bkL; simp
 ·
  simp [zal]
theorem z5l {w : World} {b off : Nat} {x : Bk} (h : w.rangeAt b off (bkL x)) : w.cell? ⟨b, off + 64, none⟩ = some (num x.slot) := zbd h (zji x).1 (zji x).2
theorem zq0 {w : World} {g : Nat} {t : TypeId} {fr : Nat × Nat} {x : Bk} (h : w.heap[g]? = some (.cells (bk x) t fr)) : w.cell? ⟨g, 64, none⟩ = some (num x.slot) := by have := z5l (x := x) (zah h); rwa [Nat.zero_add] at this
theorem zp9 (x : Bk) (y : UInt64) : zat (bk x) 64 #[num y] = bk { x with slot := y } := by
 rw [zau (c := bk x) (r := #[num y]) (zji x).1 (zji x).2 rfl]
 simp [bk, bkL]
theorem zs0 (x : Bk) : bkL x = ((rc x.root).toList ++ (rc x.parent).toList ++ [num x.slot]) ++ ([num x.just] ++ ([])) ∧ ((rc x.root).toList ++ (rc x.parent).toList ++ [num x.slot] : List Value).length = 65 := by
 constructor
 ·
  unfold bkL; simp
 ·
  simp [zal]
theorem z8m {w : World} {b off : Nat} {x : Bk} (h : w.rangeAt b off (bkL x)) : w.cell? ⟨b, off + 65, none⟩ = some (num x.just) := zbd h (zs0 x).1 (zs0 x).2
theorem zz1 {w : World} {g : Nat} {t : TypeId} {fr : Nat × Nat} {x : Bk} (h : w.heap[g]? = some (.cells (bk x) t fr)) : w.cell? ⟨g, 65, none⟩ = some (num x.just) := by have := z8m (x := x) (zah h); rwa [Nat.zero_add] at this
attribute [go_sem] z2c zwl zp9
section
open Go.WideShapes Go.ChangeShapes
variable {H : Type} {enc : TypeId × Value → H} {w : World} {base : Nat} {sp : Nat → Bool} {held : Bool}
end
attribute [irreducible] bk
end
section
variable {cnt cnt' : Lk → Bool} {ls : List Lk} {js : List Ck}
theorem zx5 : zcm cnt ls js = none ↔ ∀ k, k ∈ ls → cnt k = true → k.s ∈ js → k.t ∈ js := by
 constructor
 ·
  intro h k hk hc hs
  exact yjd h hk hc hs
 ·
  intro h
  unfold zcm
  rw [List.find?_eq_none]
  intro k hk hf
  unfold z4t at hf
  simp only [Bool.and_eq_true, Bool.not_eq_true', decide_eq_true_iff, decide_eq_false_iff_not] at hf
  exact hf.2.2 (h k hk hf.1 hf.2.1)
theorem yev : zru cnt ls js = js ↔ zcm cnt ls js = none := by
 constructor
 ·
  intro h
  have := zke (cnt := cnt) (ls := ls) ls.length js (zwb js)
  unfold zru at h
  rwa [h] at this
 ·
  intro h; exact zec h _
theorem zrt : ∀ (f : Nat) (js : List Ck), js.Nodup → (ze3 cnt ls f js).Nodup
 | 0, _, h => h
 | f + 1, js, h => by
  unfold ze3
  cases e : zcm cnt ls js with
  | none => exact h
  | some k =>
   obtain ⟨_, _, _, hn⟩ := zlm e
   exact zrt f _ (List.nodup_append.2 ⟨h, by simp, fun a ha b hb => by
    rw [List.mem_singleton] at hb; subst hb; intro e2; subst e2; exact hn ha⟩)
theorem ztn : ∀ (f : Nat) (js : List Ck) (c : Ck), c ∈ ze3 cnt ls f js → c ∈ js ∨ ∃ k, k ∈ ls ∧ k.t = c
 | 0, _, _, h => .inl h
 | f + 1, js, c, h => by
  unfold ze3 at h
  cases e : zcm cnt ls js with
  | none => rw [e] at h; exact .inl h
  | some k =>
   rw [e] at h
   rcases ztn f _ c h with h1 | h1
   ·
    rcases List.mem_append.1 h1 with h2 | h2
    ·
     exact .inl h2
    ·
     rw [List.mem_singleton] at h2; exact .inr ⟨k, (zlm e).1, h2.symm⟩
   ·
    exact .inr h1
theorem zw0 : ∀ (f : Nat) (js : List Ck) (c : Ck), c ∈ js → c ∈ ze3 cnt ls f js
 | 0, _, _, h => h
 | f + 1, js, c, h => by
  unfold ze3
  cases e : zcm cnt ls js with
  | none => exact h
  | some k => exact zw0 f _ c (List.mem_append.2 (.inl h))
end
section
variable {l : List Nd} {ls : List Lk} {bal : List UInt64} {js : List Ck} {fin : Ck}
theorem z3n (h : zf5 l ls bal = true) : zcn l ls bal js = js ↔ ∀ k, k ∈ ls → cntB l bal k = true → k.s ∈ js → k.t ∈ js := by
 rw [zkw h, yev, zx5]
theorem zz3 (h : js.Nodup) : (zcn l ls bal js).Nodup := by
 unfold zcn
 split
 ·
  exact zrt _ _ h
 ·
  exact h
theorem z8k {c : Ck} (h : c ∈ zcn l ls bal js) : c ∈ js ∨ ∃ k, k ∈ ls ∧ k.t = c := by
 unfold zcn at h
 split at h
 ·
  exact ztn _ _ _ h
 ·
  exact .inl h
theorem yc6 {c : Ck} (h : c ∈ js) : c ∈ zcn l ls bal js := by
 unfold zcn
 split
 ·
  exact zw0 _ _ _ h
 ·
  exact h
theorem z8f : zcn l ls bal (zcn l ls bal js) = zcn l ls bal js := by
 unfold zcn
 split
 ·
  exact z9p js
 ·
  rfl
theorem ztg (h : zf5 l ls bal = true) {c : Ck} : c ∈ zb6 l ls bal js ↔ c ∈ js ∧ ∃ k, k ∈ ls ∧ cntB l bal k = true ∧ k.t ∈ js ∧ k.s = c ∧ k.t.epoch.toNat = c.epoch.toNat + 1 := by
 rw [zqf h]
 unfold zm5
 rw [List.mem_filter]
 unfold z38
 rw [List.any_eq_true]
 simp only [Bool.and_eq_true, decide_eq_true_iff]
theorem zue {c : Ck} : okN l fin c = true ↔ zck l c fin = true ∧ fin.epoch.toNat < c.epoch.toNat := by
 unfold okN; rw [Bool.and_eq_true, decide_eq_true_iff]
theorem z30 : ze5 l ls bal js fin = fin ↔ ∀ c, c ∈ zb6 l ls bal js → okN l fin c = false := by
 constructor
 ·
  intro h c hc
  rw [← Bool.not_eq_true]
  intro hk
  have h3 := (zg6 zjr (okN l fin) (zb6 l ls bal js) fin).2.2 c hc hk
  unfold ze5 at h
  rw [h] at h3
  have := (zue.1 hk).2
  omega
 ·
  intro h
  rcases zwa (l := l) (ls := ls) (bal := bal) (js := js) (fin := fin) with e | ⟨h1, h2, h3⟩
  ·
   exact e
  ·
   have := h _ h1
   rw [zue.2 ⟨h2, h3⟩] at this
   cases this
theorem ybu : ze5 l ls bal js (ze5 l ls bal js fin) = ze5 l ls bal js fin := by
 rw [z30]
 intro c hc
 rw [← Bool.not_eq_true]
 intro hk
 obtain ⟨h1, h2⟩ := zue.1 hk
 have h3 := (zg6 zjr (okN l fin) (zb6 l ls bal js) fin).2.2 c hc
 change okN l fin c = true → c.epoch.toNat ≤ (ze5 l ls bal js fin).epoch.toNat at h3
 rcases zwa (l := l) (ls := ls) (bal := bal) (js := js) (fin := fin) with e | ⟨_, g2, g3⟩
 ·
  rw [e] at hk h2 h3
  have := h3 hk
  omega
 ·
  have := h3 (zue.2 ⟨zyd h1 g2, by omega⟩)
  omega
theorem yg6 (hf : fin ∈ js) : ze5 l ls bal js fin ∈ js := by
 rcases zwa (l := l) (ls := ls) (bal := bal) (js := js) (fin := fin) with e | ⟨h1, _, _⟩
 ·
  rw [e]; exact hf
 ·
  unfold zb6 at h1
  split at h1
  ·
   unfold zm5 at h1; exact (List.mem_filter.1 h1).1
  ·
   cases h1
end
def AgreeT (l l' : List Nd) (p : Rt → Prop) : Prop := ∀ c d : Ck, p c.root → p d.root → zck l c d = zck l' c d
theorem z88 {l : List Nd} {x : Nd} (h : MayT l) (h' : MayT (l ++ [x])) {r : Rt} (hr : inT l r = true) : za2 (l ++ [x]) r = za2 l r := by
 obtain ⟨i, hi, e1, e2⟩ := yas h hr
 have := zir h' (i := i) (by rw [List.length_append, List.length_singleton]; omega)
 rw [zht x hi, e2] at this
 rw [this, e1]
theorem z1v {l : List Nd} (h : MayT l) {i : Nat} (hi : i < l.length) {r : Rt} : inT (cutL l i) r = true ↔ ∃ a, zdo l i a = true ∧ (nd l a).root = r := by
 rw [zuc (zqn h hi)]
 constructor
 ·
  rintro ⟨m, hm, e⟩
  obtain ⟨k, hk, rfl⟩ := zuv hm
  exact ⟨k, hk, by rw [zjk hk] at e; exact e⟩
 ·
  rintro ⟨a, ha, e⟩
  exact ⟨ze1 l i a, zm2 ha, by rw [zjk ha]; exact e⟩
theorem zyg {l : List Nd} (h : MayT l) {i a : Nat} (hi : i < l.length) (ha : zdo l i a = true) : za2 (cutL l i) (nd l a).root = (ze1 l i a : Int) := by
 obtain ⟨h1, h2⟩ := zbx.1 ha
 rw [yh0 h hi h1, if_pos h2]
theorem yem {l : List Nd} (h : MayT l) {i : Nat} (hi : i < l.length) : AgreeT l (cutL l i) (fun r => inT (cutL l i) r = true) := by
 intro c d hc hd
 obtain ⟨a, ha, ea⟩ := (z1v h hi).1 hc
 obtain ⟨b, hb, eb⟩ := (z1v h hi).1 hd
 have hm := zqn h hi
 unfold zck
 rw [← ea, ← eb, zyg h hi ha, zyg h hi hb, zir h (zbx.1 ha).1, zir h (zbx.1 hb).1, zmv h (zbx.1 hb).1 (zbx.1 ha).1, zmv hm (zm2 hb) (zm2 ha), ydh h hi hb a ha]
section
variable {l l' : List Nd} {p : Rt → Prop} {bal : List UInt64}
theorem AgreeT.cnt (h : AgreeT l l' p) {k : Lk} (hs : p k.s.root) (ht : p k.t.root) : cntB l bal k = cntB l' bal k := by unfold cntB; rw [h _ _ ht hs]
theorem AgreeT.more (h : AgreeT l l' p) {ls ls' : List Lk} {js js' : List Ck} (hl : zf5 l ls bal = true) (hl' : zf5 l' ls' bal = true)
  (hin : ∀ x, x ∈ ls' → x ∈ ls ∧ p x.s.root ∧ p x.t.root) (hj : ∀ c, c ∈ js' → c ∈ js) (ht : ∀ x, x ∈ ls' → x.t ∈ js → x.t ∈ js') (hm : zcn l ls bal js = js) : zcn l' ls' bal js' = js' := by
 rw [z3n hl']
 rw [z3n hl] at hm
 intro k hk hc hs
 obtain ⟨h1, h2, h3⟩ := hin k hk
 exact ht k hk (hm k h1 (by rw [h.cnt h2 h3]; exact hc) (hj _ hs))
theorem AgreeT.next (h : AgreeT l l' p) {ls ls' : List Lk} {js js' : List Ck} {fin : Ck} (hl : zf5 l ls bal = true) (hl' : zf5 l' ls' bal = true)
  (hin : ∀ x, x ∈ ls' → x ∈ ls ∧ p x.s.root ∧ p x.t.root) (hj : ∀ c, c ∈ js' → c ∈ js ∧ p c.root) (hf : p fin.root) (hm : ze5 l ls bal js fin = fin) : ze5 l' ls' bal js' fin = fin := by
 rw [z30] at hm ⊢
 intro c hc
 obtain ⟨h1, k, h2, h3, h4, h5, h6⟩ := (ztg hl').1 hc
 obtain ⟨g1, g2, g3⟩ := hin k h2
 have := hm c ((ztg hl).2 ⟨(hj c h1).1, k, g1, by rw [h.cnt g2 g3]; exact h3, (hj _ h4).1, h5, h6⟩)
 unfold okN at this ⊢
 rwa [← h c fin (hj c h1).2 hf]
end
theorem yh2 {l : List Lk} {s t : Ck} {v : Int} {x : Lk} (h : x ∈ putK l s t v) : (∃ y, y ∈ l ∧ x.s = y.s ∧ x.t = y.t) ∨ (x.s = s ∧ x.t = t) := by
 by_cases he : errK l s t v = 0
 ·
  by_cases ha : atK l s t < l.length
  ·
   rw [ziv he ha] at h
   rcases List.mem_or_eq_of_mem_set h with h1 | h1
   ·
    exact .inl ⟨x, h1, rfl, rfl⟩
   ·
    exact .inl ⟨_, z4i ha, by rw [h1], by rw [h1]⟩
  ·
   rw [zz0 he ha] at h
   rcases List.mem_append.1 h with h1 | h1
   ·
    exact .inl ⟨x, h1, rfl, rfl⟩
   ·
    rw [List.mem_singleton] at h1; subst h1; exact .inr ⟨rfl, rfl⟩
 ·
  rw [zmz he] at h; exact .inl ⟨x, h, rfl, rfl⟩
theorem ylq {l : List Lk} : mayL l = true ↔ ((∀ x, x ∈ l → okK x) ∧ l.Pairwise fun a b => oneB b a = false) ∧ l.length ≤ 16 := by
 rw [zd2]
 refine and_congr ?_ Iff.rfl
 rw [List.pairwise_iff_getElem]
 constructor
 ·
  intro h
  refine ⟨fun x hx => ?_, fun i j hi hj hij => ?_⟩
  ·
   obtain ⟨i, hi, rfl⟩ := List.mem_iff_getElem.1 hx
   rw [← zb9 hi]; exact (h i hi).1
  ·
   rw [← zb9 hi, ← zb9 hj]; exact (h j hj).2 i hij
 ·
  rintro ⟨h1, h2⟩ i hi
  refine ⟨h1 _ (z4i hi), fun k hk => ?_⟩
  rw [zb9 hi, zb9 (Nat.lt_trans hk hi)]
  exact h2 k i (Nat.lt_trans hk hi) hi hk
theorem z1k {l : List Lk} (p : Lk → Bool) (h : mayL l = true) : mayL (l.filter p) = true := by
 rw [ylq] at h ⊢
 exact ⟨⟨fun x hx => h.1.1 x (List.mem_filter.1 hx).1, h.1.2.filter p⟩, Nat.le_trans (List.length_filter_le _ _) h.2⟩
theorem ynp {t : List Nd} {v : Vt} {z : Int} {r : Rt} {ep : UInt64} (hm : mayV v = true) (hz : 0 ≤ z ∧ z < v.l.length) (hr : inT t r = true) (hv : ∀ i, i < v.l.length → (lat v.l i).has = true → inT t (lat v.l i).root = true) :
  mayV (putV v z r ep) = true ∧ (putV v z r ep).l.length = v.l.length ∧ ∀ i, i < (putV v z r ep).l.length → (lat (putV v z r ep).l i).has = true → inT t (lat (putV v z r ep).l i).root = true := by
 have hp := (yg4 (r := r) (ep := ep) hm hz).1
 have hzl : z.toNat < v.l.length := by omega
 refine ⟨by rw [hp]; exact yhr hm hzl, yd9, fun i hi hh => ?_⟩
 rw [yd9] at hi
 rw [hp] at hh ⊢
 by_cases e : i = z.toNat
 ·
  subst e
  rcases zjc v z.toNat r ep with ⟨f, _⟩ | ⟨f, _⟩ | ⟨f, _⟩
  ·
   rw [zg5 f] at hh ⊢; exact hv _ hi hh
  ·
   rw [zln f]; show inT t (lat (v.l.set z.toNat _) z.toNat).root = true; rw [zkf hzl, if_pos rfl]; exact hr
  ·
   rw [zl0 f] at hh
   have hh' : (lat (v.l.set z.toNat zlt) z.toNat).has = true := hh
   rw [zkf hzl, if_pos rfl] at hh'
   cases hh'
 ·
  rw [z7p hzl e] at hh ⊢
  exact hv i hi hh
theorem ycl {l : List Nd} {f : Nat → Nat} {i : Nat} (h : ∀ k, k < l.length → zbn l i k = true → f k = 0) : subT l f i = 0 := by
 unfold subT
 rw [zbq (g := fun _ => 0) l.length (fun k hk => by
  by_cases e : zbn l i k = true
  ·
   rw [if_pos e]; exact h k hk e
  ·
   rw [if_neg e])]
 exact zew _
theorem yb3 {p : Nat → Bool} {f : Nat → Nat} {n : Nat} (h : ∀ k, k < n → p k = false) : selF p f n = 0 := by
 unfold selF
 rw [zbq (g := fun _ => 0) n (fun k hk => by rw [h k hk]; rfl)]
 exact zew _
theorem z4q (r : Rt) : MayT [⟨r, -1, 0, 0⟩] := by
 refine ⟨Nat.le_refl _, show (1 : Nat) ≤ 12 by decide, fun i hi => ?_⟩
 have hi' : i < 1 := hi
 obtain rfl : i = 0 := by omega
 unfold zx1
 exact ⟨by show (0 : Nat) ≤ _; omega, fun _ => rfl, fun h => by omega, fun k hk => by omega⟩
section
variable {e : Eg} {a : Aa} {b : Bk}
theorem yrr {bal : List UInt64} (h : mayB bal = true) (r : Rt) : MayS' (newG r bal) := by
 obtain ⟨h1, h8, _⟩ := zcy.1 h
 have hok : zfb (bal.length : Int) = true := decide_eq_true ⟨by omega, by omega⟩
 obtain ⟨m1, m2, m3, m4⟩ := ydx hok
 have ht := z4q r
 have hvl : (newV (bal.length : Int)).l.length = bal.length := by rw [m2]; exact Int.toNat_natCast _
 have hfit : fitB [⟨r, -1, 0, 0⟩] (newV bal.length) bal = true := zeg.2 ⟨ht, m1, h, hvl⟩
 have hr : inT [⟨r, -1, 0, 0⟩] r = true := (zuc ht).2 ⟨0, Nat.zero_lt_one, rfl⟩
 exact {
  t := ht, bal := h, v := m1, late := rfl, k := rfl, vl := hvl, now := by show (0 : Nat) ≤ _; omega
  w := by
   show [0] = wtsL [⟨r, -1, 0, 0⟩] (newV bal.length) bal
   refine zp7 (by rw [zuo hfit]; rfl) fun k hk => ?_
   rw [zuo hfit] at hk
   have hk' : k < 1 := hk
   obtain rfl : k = 0 := by omega
   rw [yqr hfit hk]
   refine (ycl fun i hi _ => ?_).symm
   exact yb3 fun k hk => by unfold forB; rw [m4]; rfl
  slots := fun a ha => by cases ha
  fin := List.mem_singleton.2 rfl
  nod := by show [_].Nodup; simp
  inJ := fun c hc => by
   have : c = ⟨0, r⟩ := List.mem_singleton.1 hc
   subst this; exact hr
  inV := fun i hi hh => by
   have : (lat (newV bal.length).l i).has = true := hh
   rw [m4] at this; cases this
  inK := fun x hx => by cases hx
  more := (zxq (fin := ⟨0, r⟩)).1
  next := (zxq (fin := ⟨0, r⟩)).2.2 }
theorem yo4 (he : zf8 e b = 0) : mayG e = true ∧ b.slot.toNat ≤ e.now.toNat ∧ insE e.t b.root b.parent b.slot = 0 ∧ zdh (insL e.t b.root b.parent b.slot b.just) (za2 e.t e.fin.root) e.t.length = true := by
 unfold zf8 at he
 split at he
 ·
  rename_i h1
  split at he
  ·
   omega
  ·
   split at he
   ·
    split at he
    ·
     rename_i h2 h3 h4; exact ⟨h1, by omega, h3, h4⟩
    ·
     omega
   ·
    rename_i h3; exact absurd he h3
 ·
  omega
theorem ye7 (hf : fitG e a = 0) : (0 ≤ a.val ∧ a.val < e.bal.length) ∧ (inT e.t a.head = true ∧ inT e.t a.source.root = true ∧ inT e.t a.target.root = true) ∧ a.source.epoch.toNat < a.target.epoch.toNat ∧ zdh e.t (za2 e.t a.source.root) (za2 e.t a.target.root) = true ∧ zdh e.t (za2 e.t a.target.root) (za2 e.t a.head) = true := by
 unfold fitG at hf
 split at hf
 ·
  rename_i h1
  split at hf
  ·
   rename_i h2
   split at hf
   ·
    rename_i h3; exact ⟨h1, h2, h3⟩
   ·
    omega
  ·
   omega
 ·
  omega
theorem ct_G (h : MayS' e) (hf : fitG e a = 0) : MayS' (ctG e a) := by
 unfold ctG
 by_cases he : znm e a = 0
 ·
  rw [if_pos he]
  obtain ⟨hv, ⟨hh, hs, ht⟩, _, _, _⟩ := ye7 hf
  have hk : mayL (ctK e a) = true := (ym9 he).2.1
  obtain ⟨v1, v2, v3⟩ := ynp (ep := a.target.epoch) h.v (by rw [h.vl]; exact hv) hh h.inV
  have hinK : ∀ x, x ∈ ctK e a → inT e.t x.s.root = true ∧ inT e.t x.t.root = true := fun x hx => by
   rcases yh2 hx with ⟨y, hy, e1, e2⟩ | ⟨e1, e2⟩
   ·
    rw [e1, e2]; exact h.inK y hy
   ·
    rw [e1, e2]; exact ⟨hs, ht⟩
  have hinJ : ∀ c, c ∈ ctJ e a → inT e.t c.root = true := fun c hc => by
   rcases z8k hc with h1 | ⟨k, hk, rfl⟩
   ·
    exact h.inJ c h1
   ·
    exact (hinK k hk).2
  exact {
   t := h.t, bal := h.bal, v := v1, late := h.late, k := hk, vl := v2.trans h.vl, now := h.now, w := rfl, slots := h.slots
   fin := yg6 (yc6 h.fin)
   nod := zz3 h.nod
   inJ := hinJ, inV := v3, inK := hinK
   more := z8f
   next := ybu }
 ·
  rw [if_neg he]; exact h
theorem ypg (h : MayS' e) (a : Aa) : MayS' (oneG e a) := by
 unfold oneG
 split
 ·
  rename_i hf; exact ct_G h hf
 ·
  exact h
theorem yqs (h : e.now.toNat ≤ 1099511627776) : (e.now + 1).toNat = e.now.toNat + 1 := by
 rw [UInt64.toNat_add]
 show (e.now.toNat + 1) % _ = _
 omega
theorem up_G (h : MayS' e) (hn : e.now.toNat ≠ 1099511627776) : MayS' (upG e) := by
 have hu := yqs h.now
 have := h.now
 exact { h with
  now := by show (e.now + 1).toNat ≤ _; omega
  late := ygj h.late yap (fun x hx => (z40 hx).1)
  slots := fun a ha => by
   have := (z40 ha).2
   show (e.now + 1).toNat ≤ _
   omega }
theorem yp2 (xs : List Aa) : ∀ {e : Eg}, MayS' e → MayS' (xs.foldl oneG e) := by
 induction xs with
 | nil => intro e h; exact h
 | cons a xs ih => intro e h; exact ih (ypg h a)
theorem ztz (he : zfy e = 0) : mayG e = true ∧ e.now.toNat ≠ 1099511627776 := by
 unfold zfy at he
 split at he
 ·
  rename_i h1
  split at he
  ·
   omega
  ·
   rename_i h2; exact ⟨h1, h2⟩
 ·
  omega
theorem zxk {l : List Nd} (h : MayT l) {r : Rt} : r ∈ l.map Nd.root ↔ inT l r = true := by
 rw [zuc h, List.mem_map]
 constructor
 ·
  rintro ⟨x, hx, rfl⟩
  obtain ⟨i, hi, rfl⟩ := List.mem_iff_getElem.1 hx
  exact ⟨i, hi, by rw [zva l hi]⟩
 ·
  rintro ⟨i, hi, rfl⟩
  exact ⟨l[i], List.getElem_mem hi, by rw [zva l hi]⟩
theorem ypu (h : MayS' e) : ∃ i : Nat, i < e.t.length ∧ za2 e.t e.fin.root = i ∧ (nd e.t i).root = e.fin.root ∧ prT e = cutL e.t i := by
 obtain ⟨i, hi, e1, e2⟩ := yas h.t (h.inJ _ h.fin)
 exact ⟨i, hi, e1, e2, by unfold prT; rw [e1, yf8 h.t hi]⟩
theorem zzu {t : List Nd} {fin : Ck} {x : Lk} : zuz t fin x = true ↔ (inT t x.s.root = true ∧ inT t x.t.root = true) ∧ fin.epoch.toNat < x.t.epoch.toNat := by
 unfold zuz; rw [Bool.and_eq_true, Bool.and_eq_true, decide_eq_true_iff]
theorem zlu {t : List Nd} {fin c : Ck} : z5n t fin c = true ↔ inT t c.root = true ∧ fin.epoch.toNat ≤ c.epoch.toNat := by
 unfold z5n; rw [Bool.and_eq_true, decide_eq_true_iff]
theorem zyy {keep : List Rt} {x : Lt} : zr9 keep x = true ↔ x.root ∈ keep := by unfold zr9; rw [decide_eq_true_iff]
theorem yn2 (h : MayS' e) {i : Nat} (hi : i < e.v.l.length) (ht : MayT (prT e)) : lat (prV e).l i = if inT (prT e) (lat e.v.l i).root = true then lat e.v.l i else zlt := by
 unfold prV
 rw [z44 h.v hi]
 by_cases hs : inT (prT e) (lat e.v.l i).root = true
 ·
  rw [if_pos hs, if_pos (zyy.2 ((zxk ht).2 hs))]
 ·
  rw [if_neg hs, if_neg (fun e2 => hs ((zxk ht).1 (zyy.1 e2)))]
theorem pr_G (h : MayS' e) : MayS' (prG e) := by
 unfold prG
 split
 ·
  obtain ⟨i, hi, e1, e2, e3⟩ := ypu h
  have ht : MayT (prT e) := by rw [e3]; exact zqn h.t hi
  have ag : AgreeT e.t (prT e) (fun r => inT (prT e) r = true) := by rw [e3]; exact yem h.t hi
  have hfin : inT (prT e) e.fin.root = true := by rw [e3, z1v h.t hi]; exact ⟨i, zq8 h.t hi, e2⟩
  have hk := z1k (zuz (prT e) e.fin) h.k
  have htold : zf5 (prT e) (e.k.filter (zuz (prT e) e.fin)) e.bal = true := zqx.2 ⟨ht, hk, h.bal⟩
  have hin : ∀ x, x ∈ e.k.filter (zuz (prT e) e.fin) → x ∈ e.k ∧ inT (prT e) x.s.root = true ∧ inT (prT e) x.t.root = true := fun x hx => by
   obtain ⟨h1, h2⟩ := List.mem_filter.1 hx
   obtain ⟨h3, _⟩ := zzu.1 h2
   exact ⟨h1, h3⟩
  exact {
   t := ht, bal := h.bal, v := yid h.v, late := h.late, k := hk, vl := drop_len.trans h.vl, now := h.now, w := rfl, slots := h.slots
   fin := List.mem_filter.2 ⟨h.fin, zlu.2 ⟨hfin, Nat.le_refl _⟩⟩
   nod := h.nod.filter _
   inJ := fun c hc => (zlu.1 (List.mem_filter.1 hc).2).1
   inV := fun u hu hh => by
    have hu' : u < e.v.l.length := by have h1 : u < (prV e).l.length := hu; rwa [show (prV e).l.length = e.v.l.length from drop_len] at h1
    have hl := yn2 h hu' ht
    show inT (prT e) (lat (prV e).l u).root = true
    have hh' : (lat (prV e).l u).has = true := hh
    rw [hl] at hh' ⊢
    by_cases hs : inT (prT e) (lat e.v.l u).root = true
    ·
     rw [if_pos hs]; exact hs
    ·
     rw [if_neg hs] at hh'; cases hh'
   inK := fun x hx => (hin x hx).2
   more := ag.more h.told htold hin (fun c hc => (List.mem_filter.1 hc).1) (fun x hx hj => by
    obtain ⟨_, h2⟩ := List.mem_filter.1 hx
    obtain ⟨h3, h4⟩ := zzu.1 h2
    exact List.mem_filter.2 ⟨hj, zlu.2 ⟨h3.2, by omega⟩⟩) h.more
   next := ag.next h.told htold hin (fun c hc => ⟨(List.mem_filter.1 hc).1, (zlu.1 (List.mem_filter.1 hc).2).1⟩) hfin h.next }
 ·
  exact h
end
end Go.Proofs.YtmihlihlpdkdcaaGreat
