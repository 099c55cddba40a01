import Derived.Test.YtkalofboioffiaaGreatQ15
import Derived.OrdersIn
import Derived.RangeFuncCalls
import Derived.Deep.Cut
import Derived.Deep.CutRange
import Derived.Laws.Cover3
namespace Go.Proofs.YtkalofboioffiaaGreat
open Go.RowKit
set_option maxRecDepth 200000
set_option maxHeartbeats 64000000
open Go.RowKit
section
variable {α : Type} {E : Lie α} {P : Program}
structure zjp (P : Program) (E : Lie α) (T : TypeId) (bytes : Nat) : Prop where
 slice : P.underlying T = some (.slice E.t)
 info : ∃ z : Value, (P.info? E.t).map (fun i => (i.zero, i.size, i.bytes)) = some (some z, E.n, bytes) ∧ z.cells.size = E.n
theorem ziv {T : TypeId} {bytes : Nat} (K : zjp P E T bytes) (w : World) (ty : TypeId) (base : Nat) (v : Value) (k : List α) (hown : OwnE E w base v k) (vx : Value) (l : List α) (hsl : SlE E w vx l) (hlen : k.length + l.length ≤ maxLen) (hb : (k.length + l.length) * bytes ≤ 140737488355328) (hbase : base ≤ w.heap.size) :
  ∃ v' w', (Builtin.append_ #[T, T] ty #[v, vx]).run P w = .ok v' w' ∧ OwnE E w' base v' (k ++ l) ∧ Gr w v w' v' := by
 obtain ⟨z, hinf, hzs⟩ := K.info
 obtain ⟨i, hi, hz0, hz1, hz2⟩ := info_parts hinf
 by_cases hn : l = []
 ·
  subst hn
  obtain ⟨p, cap, rfl, _⟩ := hsl
  exact ⟨v, w, zh0 (P := P) (w := w) base T ty E.t i E.n K.slice hi v k.length _ hown p cap, by simpa using hown, Gr.refl _ _⟩
 ·
  obtain ⟨b, off, cap, rfl, _, _, hc⟩ := zdm hsl (List.length_pos_iff.2 hn)
  obtain ⟨v', w', h1, h2, h3, _, h5⟩ := run_append_own_at (P := P) w base T ty E.t i z E.n bytes K.slice hi hz0 hz1 hz2 hzs E.pos v k.length (zaq E k) hown ⟨b, off, none⟩ l.length cap (zaq E l) (zbt E l) (zq9 hc) (zsq E l) hlen hb hbase
  refine ⟨v', w', h1, ?_, h3, h5.imp id fun e q hq => ?_⟩
  ·
   unfold OwnE; rw [List.length_append, zdy]; exact h2
  ·
   rw [e] at hq; injection hq with hq; omega
theorem zc1 {T : TypeId} {bytes : Nat} (K : zjp P E T bytes) (w : World) {ops : Array Oper} {rest : List Oper} {o : Oper} {a : Act} {Q : Exit → Act → World → Prop} (hgd : o.guard = none) (s x : Operand)
  (ho : o.op = .call { callee := .builtin .append, args := #[s, x], argTypes := #[T, T] })
  (base : Nat) (v : Value) (k : List α) (hs : a.eval s = v) (hown : OwnE E w base v k) (vx : Value) (l : List α) (hx : a.eval x = vx) (hsl : SlE E w vx l)
  (hlen : k.length + l.length ≤ maxLen) (hb : (k.length + l.length) * bytes ≤ 140737488355328) (hbase : base ≤ w.heap.size)
  (h : ∀ v' w', OwnE E w' base v' (k ++ l) → Gr w v w' v' → wpList P ops Q rest (a.put o.dst v') w') : wpList P ops Q (o :: rest) a w :=
 wpList_plain hgd fun K' hK => by
  obtain ⟨v', w', hr, h2, h3⟩ := ziv K w o.type base v k hown vx l hsl hlen hb hbase
  unfold Oper.wp execOp
  simp only [ho, resolve, invoke, builtin, Sem.run_bind, Sem.run_pure, Result.andThen_ok, List.map_toArray, List.map_cons, List.map_nil, hs, hx, hr]
  exact hK _ _ (h v' w' h2 h3)
end
open Go.RowKit
section
variable {P : Program} {ops : Array Oper} {E S1 : List Nat} {W : World} {Q : Exit → Act → World → Prop}
theorem z2f {α : Type} {Ea : Lie α} {T : TypeId} {bytes : Nat} (K : zjp P Ea T bytes) {B k : Nat} {o : Oper} {rest : List Oper} {a : Act} {w : World} {σ : List (Nat × World)} (hE : E.contains k = true) (hgd : o.guard = none) (hS : zhs ops S1 o = true) (s x : Operand)
  (ho : o.op = .call { callee := .builtin .append, args := #[s, x], argTypes := #[T, T] })
  (base : Nat) (v : Value) (ks : List α) (hs : a.eval s = v) (hown : OwnE Ea w base v ks) (vx : Value) (l : List α) (hx : a.eval x = vx) (hsl : SlE Ea w vx l)
  (hlen : ks.length + l.length ≤ maxLen) (hb : (ks.length + l.length) * bytes ≤ 140737488355328) (hbase : base ≤ w.heap.size) (hB : B ≤ base)
  (h : ∀ v' w', OwnE Ea w' base v' (ks ++ l) → Gr w v w' v' → wpXT (La B) (Lb B) S1 P ops E W Q (k + 1) rest (a.put o.dst v') w' ((k, w') :: σ)) : wpXT (La B) (Lb B) S1 P ops E W Q k (o :: rest) a w σ := by
 obtain ⟨v', w', hr, h2, h3⟩ := ziv K w o.type base v ks hown vx l hsl hlen hb hbase
 refine zws hE (by simp [Region.wanted, hgd]) v' w' ?_ (zd5 hS ((h3.own hown hbase).mono hB)) (h v' w' h2 h3)
 unfold execOp
 simp only [ho, resolve, invoke, builtin, Sem.run_bind, Sem.run_pure, Result.andThen_ok, List.map_toArray, List.map_cons, List.map_nil, hs, hx, hr]
end
theorem zzo {B : Nat} {w : World} {b o n : Nat} {c : Array Value} (h : ldA w (.pointer (some ⟨b, o, none⟩)) n = some c) (hb : b < B) (p : WdB B w.drew) : ldA p.w (.pointer (some ⟨b, o, none⟩)) n = some c :=
 (zqc p.h b o n hb).trans (by rw [zu9]; exact h)
theorem zo0 {B : Nat} {w : World} {b o : Nat} {v : Value} (h : w.cell? ⟨b, o, none⟩ = some v) (hb : b < B) (p : WdB B w.drew) : p.w.cell? ⟨b, o, none⟩ = some v := (p.h.cell (p := ⟨b, o, none⟩) hb).trans h
theorem zbh {w : World} {b n : Nat} {c c' : Array Value} {t : TypeId} (hg : w.heap[b]? = some (.cells c t (0, 0))) (hn : c.size = n) (hn' : c'.size = n) : ldA (stA w (.pointer (some ⟨b, 0, none⟩)) (.agg c')) (.pointer (some ⟨b, 0, none⟩)) n = some c' :=
 zx0 (za0 hg hn) hn'
theorem z4l {α : Type} {E : Lie α} {w : World} {v x : Value} {l : List α} {b : Nat} (h : SlE E w v l) (hb : v.ownBlock ≠ some b) : SlE E (stA w (.pointer (some ⟨b, 0, none⟩)) x) v l :=
 zd6 h (by rw [zl0]; exact Nat.le_refl _) (fun k _ hk => zdf (fun e => hb (by rw [hk, e])))
theorem yh6 {α : Type} {E : Lie α} {w : World} {v x : Value} {l : List α} {b o : Nat} (h : SlE E w v l) (hb : v.ownBlock ≠ some b) : SlE E (w.setCell ⟨b, o, none⟩ x) v l :=
 zd6 h (Nat.le_of_eq (by simp [World.setCell])) (fun k _ hk => by rw [Below.heap_setCell _ _ _ _ (fun e => hb (by rw [hk, e]))])
open Go.RowKit
section
variable {P : Program} {ops : Array Oper} {Q : Exit → Act → World → Prop} {md : Region.Mode} {lo n : Nat}
def zqv (ops : Array Oper) : Bool := ops.all fun o => match o.op with | .defer _ => false | _ => true
theorem zyk (h : zqv ops = true) {i : Nat} {o : Oper} (hi : ops[i]? = some o) : ∀ c, o.op ≠ .defer c := by
 intro c e
 obtain ⟨hl, rfl⟩ := Array.getElem?_eq_some_iff.1 hi
 have := Array.all_eq_true.1 h i hl
 rw [e] at this
 cases this
theorem zzm {o : Oper} {a : Act} {K : Act → World → Prop} {r : Result Next} (h : o.upon P a K Q r) : o.uponIn (Fence.wide.inRound lo) n P a K Q r := by
 cases r with
 | ok x w' =>
  cases x with
  | value v => exact h
  | skip => exact h
  | defer d => exact h
  | enter f args => exact ⟨fun h => (by cases h), CallsIn.inRound lo (callsIn_wide.2 h)⟩
  | row row args => exact ⟨fun h => (by cases h), fun c cs _ => let ⟨v, w'', r, s⟩ := h c cs; ⟨v, w'', r, stepsIn_wide.2 s⟩⟩
  | round l f tmps assign body => exact h.elim
  | _ => exact h.elim
 | halt x w' =>
  cases x with
  | panic v => exact h
  | _ => exact h.elim
theorem zzq (hQ : ¬ LetsOut Q) (hd : zqv ops = true) {i : Nat} {K K' : Act → World → Prop} {a : Act} {w : World} (hk : ∀ a w, K a w → K' a w) (h : wpOp P ops Q i K a w) : wpOpIn (Fence.wide.inRound lo) n P ops Q i K' a w := by
 refine wpOpIn_mono hk ?_
 unfold wpOp at h
 unfold wpOpIn
 split
 ·
  rename_i e
  simp only [e] at h
  exact h
 ·
  rename_i o e
  simp only [e] at h
  split
  ·
   rename_i hw
   rw [if_pos hw] at h
   have h := h.resolve_right fun x => hQ x.2
   unfold Oper.wpIn
   refine ⟨fun _ _ => trivial, ?_⟩
   rw [Oper.semAt_eq _ _ _ (zyk hd e)]
   exact zzm h
  ·
   rename_i hw
   rw [if_neg hw] at h
   exact ⟨fun _ _ => trivial, h⟩
theorem zmb (hQ : ¬ LetsOut Q) (hd : zqv ops = true) : ∀ (fuel : Nat) (listed : Array Bool) (a : Act) (w : World), wpAny P md ops Q fuel listed a w → wpAnyIn (Fence.wide.inRound lo) n P md ops Q fuel listed a w
 | 0, _, _, _, h => h
 | fuel + 1, _, _, _, h => ⟨h.1, fun i hi => zzq hQ hd (fun _ _ hk => zmb hQ hd fuel _ _ _ hk) (h.2 i hi)⟩
def Thru (Q : Exit → Act → World → Prop) (e : Exit) (a : Act) (w : World) : Prop := e = .normal ∧ Q .normal a w
theorem yii : ¬ LetsOut (Thru Q) := fun ⟨_, _, h, _⟩ => by cases h
theorem z1q {L : World → World → Prop} (lr : ∀ w, L w w) (lt : ∀ {a b c : World}, L a b → L b c → L a c) (E : List Nat) {id : Nat} {a : Act} {w : World} {l : List Oper} (hd : zqv l.toArray = true) (hm : P.follows .mixedOrders = true) (hB : Region.lexB .any l.toArray = true) (hc : zdz l.toArray E = true)
  (h : wpXL L P l.toArray E w.drew (Thru Q) 0 l a w.drew []) : (Code.region id l.toArray true).wpIn (Fence.wide.inRound lo) n P Q a w := by
 simp only [Region.lexB, Bool.and_eq_true] at hB
 refine wpIn_mono (Q := Thru Q) (wpIn_region_any hm (zmb yii hd _ _ _ _ (zfn (L := L) lr lt (E := E) (W := w.drew) _ _ _ _ [] ⟨lr _, by simp⟩ ?_))) (fun e a w hh => by obtain ⟨rfl, hh⟩ := hh; exact hh)
 have hd : DC l.toArray (Array.replicate l.toArray.size false) := fun k o _ hl => by
  rw [Array.getD_eq_getD_getElem?, Array.getElem?_replicate] at hl
  split at hl <;> simp at hl
 have := z2h (P := P) (L := L) lr lt (E := E) (W := w.drew) (Q := Thru Q) hB.1 hc l 0 (Array.replicate l.toArray.size false) a w.drew [] ⟨lr _, by simp⟩ hd (by simp) (by simpa using hB.2) h
 simpa using this
theorem zh1 (E : List Nat) {id : Nat} {a : Act} {w : World} {l : List Oper} (hd : zqv l.toArray = true) (hm : P.follows .mixedOrders = true) (hB : Region.lexB .any l.toArray = true) (hc : zdz l.toArray E = true)
  (h : wpXL Lq P l.toArray E w.drew (Thru Q) 0 l a w.drew []) : (Code.region id l.toArray true).wpIn (Fence.wide.inRound lo) n P Q a w := z1q Lq.refl (fun h k => Lq.trans h k) E hd hm hB hc h
end
open Go.RowKit
section
variable {P : Program} {ops : Array Oper} {E S1 : List Nat} {W : World} {Q : Exit → Act → World → Prop} {B fuel : Nat} {listed : Array Bool} {a : Act} {w : World} {σ : List (Nat × World)}
def GX (B : Nat) (S1 : List Nat) (P : Program) (ops : Array Oper) (E : List Nat) (W : World) (Q : Exit → Act → World → Prop) (fuel : Nat) (listed : Array Bool) (a : Act) (w : World) (σ : List (Nat × World)) : Prop :=
 Inv2 (La B) (Lb B) ops S1 W listed σ w → wpX2 (La B) (Lb B) S1 P ops E W Q fuel listed a w σ
theorem GX.start {l : List Oper} (h : GX B S1 P l.toArray E w.drew Q l.length (Array.replicate l.length false) a w.drew []) : wpAny P .any l.toArray Q l.toArray.size (Array.replicate l.toArray.size false) a w.drew := by
 have hd : DC l.toArray (Array.replicate l.length false) := fun k o _ hl => by
  rw [Array.getD_eq_getD_getElem?, Array.getElem?_replicate] at hl
  split at hl <;> simp at hl
 have hI : Inv2 (La B) (Lb B) l.toArray S1 w.drew (Array.replicate l.length false) [] w.drew := ⟨hd, ⟨(two B).r2 _, by simp⟩, fun _ => ⟨(two B).r1 _, by simp⟩⟩
 have := zel (two B) (S1 := S1) (E := E) (W := w.drew) l.length _ _ _ [] hI (h hI)
 rw [List.size_toArray]
 exact this
theorem zro (B : Nat) (S1 E : List Nat) {id : Nat} {l : List Oper} (hm : P.follows .mixedOrders = true) (h : GX B S1 P l.toArray E w.drew Q l.length (Array.replicate l.length false) a w.drew []) : (Code.region id l.toArray true).wp P Q a w :=
 wp_region_any hm h.start
theorem zo6 {l : List Oper} {i : Nat} {o : Oper} {rest : List Oper} (h : l.drop i = o :: rest) : l.toArray[i]? = some o := by
 rw [List.getElem?_toArray, ← Nat.add_zero i, ← List.getElem?_drop, h]
 rfl
theorem GX.nil (hr : Region.ready .any ops listed = []) (h : Q .normal a w) : GX B S1 P ops E W Q 0 listed a w σ := fun _ => ⟨hr, h⟩
theorem GX.takeC {i : Nat} {o : Oper} (hi : ops[i]? = some o) (hE : E.contains i = false) (hs : Region.noSelect ops = true) (hr : (Region.ready .any ops listed).contains i = true) (hf : Region.free .any ops listed i = true) (hp : zdj o.op = true) (C : World → Prop) (h0 : ∀ w', cls2 (La B) (Lb B) S1 W σ i o w' → C w')
  (h : wpQuiet P ops C (fun a' => GX B S1 P ops E W Q fuel (listed.setIfInBounds i true) a' w σ) [o] a) : GX B S1 P ops E W Q (fuel + 1) listed a w σ := by
 intro hv
 have hr' : i ∈ Region.ready .any ops listed := by simpa using hr
 unfold wpQuiet at h
 by_cases hw : Region.wanted o (yielded ops a.tmps) = true
 ·
  rw [if_pos hw] at h
  obtain ⟨v, h1, h2⟩ := h
  refine zjk (two B) hi (Region.noSelect_spec hs) fuel listed a w σ hv (Region.free_spec hi hf) hr' (.inl hE) (.inl ⟨hw, fun w' hw' => ?_⟩) (h2 (hv.step hr'))
  have := h1 w' (h0 w' hw')
  unfold Oper.quietAt at this
  unfold zdu
  have hne := fun f args w'' => zet (P := P) hp (ρ := a.eval) (w := w') (w' := w'') (f := f) (args := args)
  generalize (execOp a.eval o).run P w' = r at *
  cases r with
  | ok n w1 =>
   cases n <;> simp only [Oper.quietUpon] at this
   case value u => obtain ⟨rfl, rfl⟩ := this; exact .inl rfl
   case skip => obtain ⟨rfl, rfl⟩ := this; exact .inr ⟨rfl, rfl⟩
   case enter f args => exact absurd rfl (hne f args w1)
  | halt x w1 => simp only [Oper.quietUpon] at this
 ·
  rw [if_neg hw] at h
  have hw' : Region.wanted o (yielded ops a.tmps) = false := by simpa using hw
  exact zjk (two B) hi (Region.noSelect_spec hs) fuel listed a w σ hv (Region.free_spec hi hf) hr' (.inr hw') (.inr ⟨hw', rfl⟩) (h (hv.step hr'))
theorem GX.take1 (i : Nat) {l : List Oper} {o : Oper} {tl : List Oper} (hi : l.drop i = o :: tl) (hE : E.contains i = false) (hS : S1.contains i = true) (hs : Region.noSelect l.toArray = true) (hr : (Region.ready .any l.toArray listed).contains i = true) (hf : Region.free .any l.toArray listed i = true) (hp : zdj o.op = true) (hW : B ≤ W.heap.size)
  (h : wpQuiet P l.toArray (fun w' => ∃ p : Wd W, w' = p.w) (fun a' => GX B S1 P l.toArray E W Q fuel (listed.setIfInBounds i true) a' w σ) [o] a) : GX B S1 P l.toArray E W Q (fuel + 1) listed a w σ :=
 GX.takeC (zo6 hi) hE hs hr hf hp _ (fun w' hw' => ⟨⟨w', by have := hw'.1; unfold relC at this; rw [if_pos hS] at this; exact this hW⟩, rfl⟩) h
theorem GX.take2 (i : Nat) {l : List Oper} {o : Oper} {tl : List Oper} (hi : l.drop i = o :: tl) (hE : E.contains i = false) (hS : S1.contains i = false) (hs : Region.noSelect l.toArray = true) (hr : (Region.ready .any l.toArray listed).contains i = true) (hf : Region.free .any l.toArray listed i = true) (hp : zdj o.op = true) (hW : B ≤ W.heap.size)
  (h : wpQuiet P l.toArray (fun w' => ∃ p : WdB B W, w' = p.w) (fun a' => GX B S1 P l.toArray E W Q fuel (listed.setIfInBounds i true) a' w σ) [o] a) : GX B S1 P l.toArray E W Q (fuel + 1) listed a w σ :=
 GX.takeC (zo6 hi) hE hs hr hf hp _ (fun w' hw' => ⟨⟨w', by have := hw'.1; unfold relC at this; rw [hS, if_neg Bool.false_ne_true] at this; exact (this hW).1⟩, rfl⟩) h
theorem GX.branch1 (i : Nat) (hr : Region.ready .any ops listed = [i]) (h : xOp2 (La B) (Lb B) S1 P ops E W i (fun a' w' σ' => GX B S1 P ops E W Q fuel (listed.setIfInBounds i true) a' w' σ') a w σ) : GX B S1 P ops E W Q (fuel + 1) listed a w σ := by
 intro hv
 refine ⟨fun e => (by rw [hr] at e; cases e), fun k hk => ?_⟩
 have hk' := hk
 rw [hr, List.mem_singleton] at hk
 subst hk
 exact zf4 (two B) hv hk' (fun _ _ _ hv' hk => hk hv') h
theorem GX.branch2 (i j : Nat) (hr : Region.ready .any ops listed = [i, j]) (h : xOp2 (La B) (Lb B) S1 P ops E W i (fun a' w' σ' => GX B S1 P ops E W Q fuel (listed.setIfInBounds i true) a' w' σ') a w σ) (h' : xOp2 (La B) (Lb B) S1 P ops E W j (fun a' w' σ' => GX B S1 P ops E W Q fuel (listed.setIfInBounds j true) a' w' σ') a w σ) : GX B S1 P ops E W Q (fuel + 1) listed a w σ := by
 intro hv
 refine ⟨fun e => (by rw [hr] at e; cases e), fun k hk => ?_⟩
 have hk' := hk
 rw [hr, List.mem_cons, List.mem_singleton] at hk
 rcases hk with rfl | rfl
 ·
  exact zf4 (two B) hv hk' (fun _ _ _ hv' hk => hk hv') h
 ·
  exact zf4 (two B) hv hk' (fun _ _ _ hv' hk => hk hv') h'
variable {K : Act → World → List (Nat × World) → Prop}
theorem ze5 {i : Nat} {lo : List Oper} {o : Oper} {tl : List Oper} (hi : lo.drop i = o :: tl) (hE : E.contains i = true) (hw : Region.wanted o (yielded lo.toArray a.tmps) = true) (v : Value) (w' : World) (hrun : (execOp a.eval o).run P w = .ok (.value v) w') (hl : relE (La B) (Lb B) lo.toArray S1 o w w') (h : K (a.put o.dst v) w' ((i, w') :: σ)) : xOp2 (La B) (Lb B) S1 P lo.toArray E W i K a w σ := by
 unfold xOp2
 simp only [zo6 hi]
 rw [if_pos hw, if_pos hE]
 unfold zd0
 rw [hrun]
 exact ⟨hl, h⟩
theorem zrq {i : Nat} {lo : List Oper} {o : Oper} {tl : List Oper} (hi : lo.drop i = o :: tl) (hE : E.contains i = true) (hw : Region.wanted o (yielded lo.toArray a.tmps) = true) (w' : World) (hrun : (execOp a.eval o).run P w = .ok .skip w') (hl : relE (La B) (Lb B) lo.toArray S1 o w w') (h : K (a.put o.dst undef) w' ((i, w') :: σ)) : xOp2 (La B) (Lb B) S1 P lo.toArray E W i K a w σ := by
 unfold xOp2
 simp only [zo6 hi]
 rw [if_pos hw, if_pos hE]
 unfold zd0
 rw [hrun]
 exact ⟨hl, h⟩
theorem zht {i : Nat} {lo : List Oper} {o : Oper} {tl : List Oper} (hi : lo.drop i = o :: tl) (hE : E.contains i = true) (hw : Region.wanted o (yielded lo.toArray a.tmps) = true) {f : FuncId} {xs : Array Operand} {ts : Array TypeId}
  (ho : o.op = .call { callee := .value (.func f), args := xs, argTypes := ts }) (hen : ∀ args w, (callFunc f args).run P w = .ok (.enter f args) w)
  (args : Array Value) (hargs : xs.toList.map a.eval = args.toList) (h : Calls P f args w fun e w' => ∃ v, e = .returned v ∧ Below w.heap.size w w' ∧ K (a.put o.dst v) w' ((i, w') :: σ)) : xOp2 (La B) (Lb B) S1 P lo.toArray E W i K a w σ := by
 unfold xOp2
 simp only [zo6 hi]
 rw [if_pos hw, if_pos hE]
 unfold zd0
 have hargs : xs.map a.eval = args := Array.toList_inj.1 (by rw [Array.toList_map]; exact hargs)
 subst hargs
 have : (execOp a.eval o).run P w = .ok (.enter f (xs.map a.eval)) w := by
  unfold execOp
  simp [ho, resolve, invoke, Act.eval, Deferred.ofValue, hen]
 rw [this]
 exact Calls.mono h fun e w' ⟨v, he, hb, hk⟩ => ⟨v, he, zdk hb, hk⟩
attribute [irreducible] GX
end
open Go.RowKit
structure LaidS (W : World) (x : Sn) (s : Sg) : Prop where
 t : SlE Ene W (sv x.t.n) s.t
 ver : x.ver = s.ver
 head : x.head = s.head
 just : x.just = s.just
 fin : x.fin = s.fin
theorem LaidS.keep {W W' : World} {x : Sn} {s : Sg} (b : Below W.heap.size W W') (h : LaidS W x s) : LaidS W' x s :=
 ⟨zad b h.t, h.ver, h.head, h.just, h.fin⟩
structure Sw (w W : World) (T : Nat) (x : Sn) (s : Sg) : Prop where
 box : W.heap[T]? = some (.cells (sn x) 40 (0, 0))
 l : LaidS W x s
 g : Below w.heap.size w W
section
variable {w W W' : World} {T : Nat} {x : Sn} {s : Sg}
theorem Sw.keep (h : Sw w W T x s) (b : Below W.heap.size W W') : Sw w W' T x s := ⟨zab b h.box, h.l.keep b, zac h.g b⟩
theorem Sw.z (h : Sw w W T x s) : ldA W (.pointer (some ⟨T, 0, none⟩)) 100 = some (sn x) := zag h.box (ze2 x)
theorem Sw.lt (h : Sw w W T x s) : T < W.heap.size := (Array.getElem?_eq_some_iff.1 h.box).1
theorem Sw.zv (h : Sw w W T x s) : W.cell? ⟨T, 0, none⟩ = some (.int .i64 s.ver) := by rw [← h.l.ver]; exact z7u h.box
theorem Sw.zt (h : Sw w W T x s) : W.cell? ⟨T, 1, none⟩ = some (sv x.t.n) := z7t h.box
theorem Sw.zT (h : Sw w W T x s) : ldA W (.pointer (some ⟨T, 1, none⟩)) 1 = some (tr ⟨x.t.n⟩) := yic h.box
theorem Sw.zh (h : Sw w W T x s) : ldA W (.pointer (some ⟨T, 2, none⟩)) 32 = some (rc s.head) := by rw [← h.l.head]; exact z1z h.box
theorem Sw.zj (h : Sw w W T x s) : ldA W (.pointer (some ⟨T, 34, none⟩)) 33 = some (cc s.just) := by rw [← h.l.just]; exact z10 h.box
theorem Sw.zf (h : Sw w W T x s) : ldA W (.pointer (some ⟨T, 67, none⟩)) 33 = some (cc s.fin) := by rw [← h.l.fin]; exact z7s h.box
theorem Sw.ze (h : Sw w W T x s) : W.cell? ⟨T, 34, none⟩ = some (.int .u64 (s.just.epoch.toNat : Int)) := by rw [← h.l.just]; exact zna h.box
theorem Sw.zJ (h : Sw w W T x s) : ldA W (.pointer (some ⟨T, 35, none⟩)) 32 = some (rc s.just.root) := by rw [← h.l.just]; exact zoa h.box
theorem Sw.zr (h : Sw w W T x s) : ldA W (.pointer (some ⟨T, 68, none⟩)) 32 = some (rc s.fin.root) := by rw [← h.l.fin]; exact zrb h.box
theorem ykf (h : LaidS w x s) : Sw w (w.alloc (.cells (sn x) 40)) w.heap.size x s := ⟨heap_alloc_last w _, h.keep below1, below1⟩
theorem ztw (b : Below w.heap.size w W) (h : LaidS W x s) : Sw w (W.alloc (.cells (sn x) 40)) W.heap.size x s := ⟨heap_alloc_last W _, h.keep below1, zac b below1⟩
end
def SnIs (s : Sg) (w : World) (e : Ending) (w' : World) : Prop := ∃ x : Sn, e = .returned (.agg (sn x)) ∧ LaidS w' x s ∧ Below w.heap.size w w'
def rsOf (r : Rg) : Rs := ⟨(r.e : Int), r.r, r.is, r.c⟩
section
variable (w : World)
theorem ynm (x : Rs) : (Instr.field 51 (.agg (rs x)) 1).run Tryz.prog w = .ok (.agg (rc x.r)) w := by
 have h : (Instr.field 51 (.agg (rs x)) 1).run Tryz.prog w = (part 34 (rs x) 1).run Tryz.prog w := by kernel_rfl
 rw [h, zvu _ _ _ (zv2 x) w]
end
attribute [go_sem] ynm
theorem zek {α : Type} {E : Lie α} {w : World} {s : SlV} {l : List α} (h : SlE E w (sv s) l) : l.length = s.len := by
 obtain ⟨p', cap', e, _⟩ := zar h
 unfold sv at e; injection e with _ e; exact e.symm
theorem yls (x : En) (g : Eg) (w : World) (h : LaidG w x g) : Calls Tryz.prog 10 #[.agg (en x)] w fun e w' => e = .returned (.bool (fewG g)) ∧ Below w.heap.size w w' := by
 obtain ⟨W0, hW0⟩ : ∃ W0, W0 = w.alloc (.cells (en x) 38) := ⟨_, rfl⟩
 have A0 : Gv w W0 w.heap.size x g := by rw [hW0]; exact zpz h
 have HW := Lib.hid hW0
 obtain ⟨b0, hb0⟩ : ∃ b, b = decide (g.t.length ≤ 16) := ⟨_, rfl⟩
 obtain ⟨⟨p0, n0, c0⟩, hs0⟩ : ∃ s : SlV, s = x.t.n := ⟨_, rfl⟩
 have l0 : g.t.length = n0 := by have := zek A0.l.t; rw [← hs0] at this; exact this
 have y0 := A0.zt
 rw [← hs0, za7] at y0
 have s0 : decide (n0 ≤ 16) = b0 := by rw [hb0, l0]
 have t0 : decide ((n0 : Int) ≤ 16) = b0 := by rw [hb0, l0]; congr 1; rw [eq_iff_iff]; omega
 obtain ⟨b1, hb1⟩ : ∃ b, b = decide (g.bal.length ≤ 12) := ⟨_, rfl⟩
 obtain ⟨⟨p1, n1, c1⟩, hs1⟩ : ∃ s : SlV, s = x.bal := ⟨_, rfl⟩
 have l1 : g.bal.length = n1 := by have := zek A0.l.bal; rw [← hs1] at this; exact this
 have y1 := A0.zb
 rw [← hs1, za7] at y1
 have s1 : decide (n1 ≤ 12) = b1 := by rw [hb1, l1]
 have t1 : decide ((n1 : Int) ≤ 12) = b1 := by rw [hb1, l1]; congr 1; rw [eq_iff_iff]; omega
 obtain ⟨b2, hb2⟩ : ∃ b, b = decide (g.v.l.length ≤ 12) := ⟨_, rfl⟩
 obtain ⟨⟨p2, n2, c2⟩, hs2⟩ : ∃ s : SlV, s = x.v.l := ⟨_, rfl⟩
 have l2 : g.v.l.length = n2 := by have := zek A0.l.v; rw [← hs2] at this; exact this
 have y2 := A0.zv
 rw [← hs2, za7] at y2
 have s2 : decide (n2 ≤ 12) = b2 := by rw [hb2, l2]
 have t2 : decide ((n2 : Int) ≤ 12) = b2 := by rw [hb2, l2]; congr 1; rw [eq_iff_iff]; omega
 obtain ⟨b3, hb3⟩ : ∃ b, b = decide (g.w.length ≤ 16) := ⟨_, rfl⟩
 obtain ⟨⟨p3, n3, c3⟩, hs3⟩ : ∃ s : SlV, s = x.w := ⟨_, rfl⟩
 have l3 : g.w.length = n3 := by have := zek A0.l.w; rw [← hs3] at this; exact this
 have y3 := A0.zw
 rw [← hs3, za7] at y3
 have s3 : decide (n3 ≤ 16) = b3 := by rw [hb3, l3]
 have t3 : decide ((n3 : Int) ≤ 16) = b3 := by rw [hb3, l3]; congr 1; rw [eq_iff_iff]; omega
 obtain ⟨b4, hb4⟩ : ∃ b, b = decide (g.late.length ≤ 10) := ⟨_, rfl⟩
 obtain ⟨⟨p4, n4, c4⟩, hs4⟩ : ∃ s : SlV, s = x.late := ⟨_, rfl⟩
 have l4 : g.late.length = n4 := by have := zek A0.l.late; rw [← hs4] at this; exact this
 have y4 := A0.zl
 rw [← hs4, za7] at y4
 have s4 : decide (n4 ≤ 10) = b4 := by rw [hb4, l4]
 have t4 : decide ((n4 : Int) ≤ 10) = b4 := by rw [hb4, l4]; congr 1; rw [eq_iff_iff]; omega
 obtain ⟨b5, hb5⟩ : ∃ b, b = decide (g.k.length ≤ 20) := ⟨_, rfl⟩
 obtain ⟨⟨p5, n5, c5⟩, hs5⟩ : ∃ s : SlV, s = x.k := ⟨_, rfl⟩
 have l5 : g.k.length = n5 := by have := zek A0.l.k; rw [← hs5] at this; exact this
 have y5 := A0.zk
 rw [← hs5, za7] at y5
 have s5 : decide (n5 ≤ 20) = b5 := by rw [hb5, l5]
 have t5 : decide ((n5 : Int) ≤ 20) = b5 := by rw [hb5, l5]; congr 1; rw [eq_iff_iff]; omega
 obtain ⟨b6, hb6⟩ : ∃ b, b = decide (g.j.length ≤ 24) := ⟨_, rfl⟩
 obtain ⟨⟨p6, n6, c6⟩, hs6⟩ : ∃ s : SlV, s = x.j := ⟨_, rfl⟩
 have l6 : g.j.length = n6 := by have := zek A0.l.j; rw [← hs6] at this; exact this
 have y6 := A0.zj
 rw [← hs6, za7] at y6
 have s6 : decide (n6 ≤ 24) = b6 := by rw [hb6, l6]
 have t6 : decide ((n6 : Int) ≤ 24) = b6 := by rw [hb6, l6]; congr 1; rw [eq_iff_iff]; omega
 have HF : Hid (fewG g = (b0 && (b1 && (b2 && (b3 && (b4 && (b5 && b6))))))) := by show _ = _; unfold fewG; rw [hb0, hb1, hb2, hb3, hb4, hb5, hb6]
 have HB := Lib.hid A0.g
 obtain ⟨r, hr⟩ : ∃ r, r = fewG g := ⟨_, rfl⟩
 rw [← hr] at HF ⊢
 clear A0 hW0 hr hb0 hs0 l0 hb1 hs1 l1 hb2 hs2 l2 hb3 hs3 l3 hb4 hs4 l4 hb5 hs5 l5 hb6 hs6 l6
 cases b0
 ·
  go_enter Tryz.func10, Tryz.ntmps10
  go_upto_region 1 with fail
  rw [← HW.out]
  go_wp2_with fail
  go_ret
  exact ⟨by rw [HF.out]; first | done | rfl, HB.out⟩
 ·
  cases b1
  ·
   go_enter Tryz.func10, Tryz.ntmps10
   go_upto_region 1 with fail
   rw [← HW.out]
   go_wp2_with fail
   go_ret
   exact ⟨by rw [HF.out]; first | done | rfl, HB.out⟩
  ·
   cases b2
   ·
    go_enter Tryz.func10, Tryz.ntmps10
    go_upto_region 1 with fail
    rw [← HW.out]
    go_wp2_with fail
    go_ret
    exact ⟨by rw [HF.out]; first | done | rfl, HB.out⟩
   ·
    cases b3
    ·
     go_enter Tryz.func10, Tryz.ntmps10
     go_upto_region 1 with fail
     rw [← HW.out]
     go_wp2_with fail
     go_ret
     exact ⟨by rw [HF.out]; first | done | rfl, HB.out⟩
    ·
     cases b4
     ·
      go_enter Tryz.func10, Tryz.ntmps10
      go_upto_region 1 with fail
      rw [← HW.out]
      go_wp2_with fail
      go_ret
      exact ⟨by rw [HF.out]; first | done | rfl, HB.out⟩
     ·
      cases b5
      ·
       go_enter Tryz.func10, Tryz.ntmps10
       go_upto_region 1 with fail
       rw [← HW.out]
       go_wp2_with fail
       go_ret
       exact ⟨by rw [HF.out]; first | done | rfl, HB.out⟩
      ·
       cases b6
       ·
        go_enter Tryz.func10, Tryz.ntmps10
        go_upto_region 1 with fail
        rw [← HW.out]
        go_wp2_with fail
        go_ret
        exact ⟨by rw [HF.out]; first | done | rfl, HB.out⟩
       ·
        go_enter Tryz.func10, Tryz.ntmps10
        go_upto_region 1 with fail
        rw [← HW.out]
        go_wp2_with fail
        go_ret
        exact ⟨by rw [HF.out]; first | done | rfl, HB.out⟩
theorem zd4 {w : World} {b off : Nat} {a : List UInt64} (h : w.rangeAt b off (zaq Enum a)) {i : Nat} (hi : i < a.length) : w.cell? ⟨b, off + i, none⟩ = some (.int .u64 (fn a i : Int)) := by
 have := zpd h hi (j := 0) (v := num a[i]) rfl
 rw [yl1 hi]
 simpa [Enum, num] using this
theorem ybz {v : Nat} (h : v < 18446744073709551616) : num (UInt64.ofNat v) = .int .u64 (v : Int) := by
 unfold num
 rw [UInt64.toNat_ofNat', Nat.mod_eq_of_lt h]
theorem zgi {w : World} {p : Option Addr} {n cp : Nat} {a : List UInt64} (h : SlE Enum w (.slice p n cp) a) (h0 : 0 < a.length) : ∃ b o, p = some ⟨b, o, none⟩ ∧ b < w.heap.size ∧ w.rangeAt b o (zaq Enum a) := by
 obtain ⟨b, o, c, e, _, q, x⟩ := zdm h h0
 injection e with e1 e2 e3
 exact ⟨b, o, e1, q, x⟩
theorem zls (w : World) {v : Nat} (h : v < 18446744073709551616) (b : Nat) (hb : b = w.heap.size) : SlE Enum (w.alloc (.cells #[.int .u64 (v : Int)] 27)) (.slice (some ⟨b, 0, none⟩) 1 1) [UInt64.ofNat v] :=
 zej w [UInt64.ofNat v] 1 _ _ b rfl hb (by simp [zaq, Enum, ybz h])
def NumsOk (a : List UInt64) (ok : Bool) (w : World) (e : Ending) (w' : World) : Prop := ∃ v : Value, e = .returned (.tuple #[v, .bool ok]) ∧ OwnE Enum w' w.heap.size v a ∧ Below w.heap.size w w'
def z2r (a : List UInt64) (ok : Bool) (w : World) (e : Ending) (w' : World) : Prop := ∃ v : Value, e = .returned (.tuple #[v, .bool ok]) ∧ SlE Enum w' v a ∧ Below w.heap.size w w'
theorem NumsOk.is {a : List UInt64} {ok : Bool} {w w' : World} {e : Ending} (h : NumsOk a ok w e w') : z2r a ok w e w' := by
 obtain ⟨v, h1, h2, h3⟩ := h
 exact ⟨v, h1, zat h2, h3⟩
open Go.RowKit
structure zn1 : Prop where
 of : ∀ (x : En) (g : Eg) (ver : Int) (w : World), LaidG w x g → zcv g → Calls Tryz.prog 12 #[.agg (en x), .int .i64 ver] w (SnIs (ofE g ver) w)
 may : ∀ (x : Sn) (s : Sg) (w : World), LaidS w x s → Calls Tryz.prog 15 #[.agg (sn x)] w (fun e w' => e = .returned (.bool (mayN s)) ∧ Below w.heap.size w w')
 ask : ∀ (x : Sn) (s : Sg) (c : Cl) (w : World), LaidS w x s → Calls Tryz.prog 17 #[.agg (sn x), .agg (cl c)] w (fun e w' => e = .returned (.agg (rs (rsOf (askN s c.kind c.a c.b c.slot.toNat)))) ∧ Below w.heap.size w w')
 note : ∀ (x : Sn) (s : Sg) (w : World), LaidS w x s → Calls Tryz.prog 19 #[.agg (sn x)] w (fun e w' => e = .returned (.agg (nt ⟨s.ver, s.head, s.fin⟩)) ∧ Below w.heap.size w w')
 same : ∀ (x y : Sn) (s t : Sg) (w : World), LaidS w x s → LaidS w y t → s.t.length ≤ 1000 → t.t.length ≤ 1000 → Calls Tryz.prog 16 #[.agg (sn x), .agg (sn y)] w (fun e w' => e = .returned (.bool (decide (s = t))) ∧ Below w.heap.size w w')
structure zdn : Prop where
 new : ∀ (r : Rt) (v : Value) (bal : List UInt64) (w : World), SlE Enum w v bal → bal.length ≤ 1000 → Calls Tryz.prog 27 #[.agg (rc r), v] w (EgOk (if mayB bal = true then newG r bal else z8n) (mayB bal) w)
 find : ∀ (s : SlV) (l : List Nd) (r : Rt) (w : World), SlE Ene w (sv s) l → Calls Tryz.prog 21 #[.agg (tr ⟨s⟩), .agg (rc r)] w (fun e w' => e = .returned (.int .i64 (zal l r)) ∧ Below w.heap.size w w')
theorem zb4 : ∀ args w, (callFunc 17 args).run Tryz.prog w = .ok (.enter 17 args) w := zbe Tryz.func17 (by kernel_rfl) (by kernel_rfl)
theorem zbk : ∀ args w, (callFunc 21 args).run Tryz.prog w = .ok (.enter 21 args) w := zbe Tryz.func21 (by kernel_rfl) (by kernel_rfl)
section
variable (w : World)
theorem yby (x : Nt) : (Instr.field 54 (.agg (nt x)) 0).run Tryz.prog w = .ok (.int .i64 x.ver) w := by
 have h : (Instr.field 54 (.agg (nt x)) 0).run Tryz.prog w = (part 3 (nt x) 0).run Tryz.prog w := by kernel_rfl
 rw [h, yne _ _ _ (z6u x) w]
end
attribute [go_sem] yby
def e18 : Eg := newG r1 [1]
def s18 : Sg := ofE e18 3
theorem yn5 : (mayB [1] = true ∧ fewG e18 = true) ∧ (s18.head = r1 ∧ s18.ver = 3) ∧ mayN s18 = true ∧ (askN s18 5 zr zr 0).r = r1 ∧ s18.t.length ≤ 1000 := by decide +kernel
theorem ym7 (w : World) (b : Nat) (hb : b = w.heap.size) : SlE Enum (w.alloc (.cells #[.int .u64 1] 27)) (.slice (some ⟨b, 0, none⟩) 1 1) [1] :=
 zej w _ 1 _ _ b rfl hb (by kernel_rfl)
theorem zfp (H : zn1) (HX : zdn) (w : World) : Calls Tryz.prog 9 #[] w fun e w' => e = .returned (.bool true) ∧ Below w.heap.size w w' := by
 obtain ⟨⟨x1, x2⟩, ⟨x3, x4⟩, x5, x6, x7⟩ := yn5
 replace x2 := (zla x2).1
 have HN := Lib.hid (fun v W (h : SlE Enum W v [1]) => HX.new r1 v [1] W h (by decide))
 rw [x1, if_pos rfl, show newG r1 [1] = e18 from rfl] at HN
 have HO := Lib.hid (fun x W h => H.of x e18 3 W h x2)
 rw [show ofE e18 3 = s18 from rfl] at HO
 have HM := Lib.hid (fun x W h => H.may x s18 W h)
 rw [x5] at HM
 obtain ⟨R, hR⟩ : ∃ R, R = rsOf (askN s18 5 zr zr 0) := ⟨_, rfl⟩
 have HA : Hid (∀ x W, LaidS W x s18 → Calls Tryz.prog 17 #[.agg (sn x), .agg (cl ⟨5, ⟨none, 0, 0⟩, zr, zr, 0⟩)] W (fun e w' => e = .returned (.agg (rs R)) ∧ Below W.heap.size W w')) := fun x W h => by rw [hR]; exact H.ask x s18 ⟨5, ⟨none, 0, 0⟩, zr, zr, 0⟩ W h
 have hr : R.r = r1 := by rw [hR]; exact x6
 have HT := Lib.hid (fun x W h => H.note x s18 W h)
 rw [x3, x4] at HT
 have HS := Lib.hid (fun x W h => H.same x x s18 s18 W h h x7 x7)
 rw [decide_eq_true rfl] at HS
 have X3 := Lib.hid x3
 have X4 := Lib.hid x4
 have XR := Lib.hid hr
 generalize e18 = E0 at *
 generalize s18 = S0 at *
 clear x1 x2 x3 x4 x5 x6 x7 H HX hR hr
 go_enter Tryz.func9, Tryz.ntmps9
 go_wp2_with fail
 refine (HN.out _ _ (ym7 w _ (by simp))).mono ?_
 rintro e w1 ⟨x1, rfl, h1, g1⟩
 have A := Lib.hid (yan (zac below1 g1) h1)
 clear h1 g1
 have z1 := A.out.z
 go_wp2_with fail
 refine (HO.out _ _ A.out.l).mono ?_
 rintro e w2 ⟨x2, rfl, h2, g2⟩
 have S := Lib.hid (ztw (zac A.out.g g2) h2)
 clear h2 g2 z1 A
 have z := S.out.z
 have zv := S.out.zv
 have zh := S.out.zh
 rw [X3.out] at zh
 rw [X4.out] at zv
 go_wp2_with fail
 refine (HM.out _ _ S.out.l).mono ?_
 rintro e w3 ⟨rfl, g⟩
 replace S := Lib.hid (S.out.keep g)
 clear g z zv zh
 have z := S.out.z
 go_wp2_with fail
 refine (HA.out _ _ S.out.l).mono ?_
 rintro e w4 ⟨rfl, g⟩
 replace S := Lib.hid (S.out.keep g)
 clear g z
 have z := S.out.z
 have hr := XR.out
 go_wp2_with fail
 refine (HT.out _ _ S.out.l).mono ?_
 rintro e w5 ⟨rfl, g⟩
 replace S := Lib.hid (S.out.keep g)
 clear g z hr
 have z := S.out.z
 go_wp2_with fail
 refine (HS.out _ _ S.out.l).mono ?_
 rintro e w6 ⟨rfl, g⟩
 replace S := Lib.hid (S.out.keep g)
 clear g z
 go_wp2_with fail
 go_ret
 exact ⟨rfl, S.out.g⟩
end Go.Proofs.YtkalofboioffiaaGreat
