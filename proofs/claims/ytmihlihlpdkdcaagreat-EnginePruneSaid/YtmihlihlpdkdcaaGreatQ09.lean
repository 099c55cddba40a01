import Derived.Test.YtmihlihlpdkdcaaGreatQ03
import Derived.Test.YtmihlihlpdkdcaaGreatQ08
import Derived.Test.YtmihlihlpdkdcaaGreatQ01
import Derived.Test.YtmihlihlpdkdcaaGreatQ02
import Derived.OrdersIn
import Derived.RangeFuncCalls
namespace Go.Proofs.YtmihlihlpdkdcaaGreat
open Go.RowKit
set_option maxRecDepth 200000
set_option maxHeartbeats 64000000
open Go.RowKit
section
variable {P : Program} {ops : Array Oper} {E S1 : List Nat} {L1 L2 : World → World → Prop} {W : World} {Q : Exit → Act → World → Prop}
def z60 (ops : Array Oper) : Nat → Oper → Nat → Bool
 | 0, o, k => zd5 o k
 | f + 1, o, k => zd5 o k || o.after.any fun e => Region.binds .any e && ((ops[e.on]?).map fun o' => z60 ops f o' k).getD false
theorem zr9 {listed : Array Bool} (hd : DC ops listed) {k : Nat} : ∀ (f : Nat) (o : Oper), (∀ e ∈ o.after, Region.binds .any e = true → listed.getD e.on false = true) → z60 ops f o k = true → listed.getD k false = true
 | 0, o, hall, h => by
  obtain ⟨e, he, hb, hon⟩ := zeo h
  rw [← hon]; exact hall e he hb
 | f + 1, o, hall, h => by
  unfold z60 at h
  rw [Bool.or_eq_true] at h
  rcases h with h | h
  ·
   obtain ⟨e, he, hb, hon⟩ := zeo h
   rw [← hon]; exact hall e he hb
  ·
   rw [Array.any_eq_true] at h
   obtain ⟨j, hj, h⟩ := h
   rw [Bool.and_eq_true] at h
   obtain ⟨hb, h⟩ := h
   have hl := hall _ (Array.getElem_mem hj) hb
   cases ho : ops[(o.after[j]).on]? with
   | none => rw [ho] at h; simp at h
   | some o' =>
    rw [ho] at h
    exact zr9 hd f o' (fun e he hb => hd _ o' ho hl e he hb) (by simpa using h)
def zip (ops : Array Oper) (S1 : List Nat) (o : Oper) : Bool := S1.all fun k => z60 ops 8 o k
def relE (L1 L2 : World → World → Prop) (ops : Array Oper) (S1 : List Nat) (o : Oper) (a b : World) : Prop := if zip ops S1 o = true then L2 a b else L1 a b
def relC (L1 L2 : World → World → Prop) (S1 : List Nat) (i : Nat) (a b : World) : Prop := if S1.contains i = true then L1 a b else L2 a b
def pend (S1 : List Nat) (listed : Array Bool) : Bool := S1.any fun k => !listed.getD k true
theorem z53 {listed : Array Bool} {j : Nat} (h : pend S1 (listed.setIfInBounds j true) = true) : ∃ k ∈ S1, listed.getD k true = false ∧ k ≠ j := by
 unfold pend at h
 rw [List.any_eq_true] at h
 obtain ⟨k, hk, h⟩ := h
 refine ⟨k, hk, ?_⟩
 by_cases e : j = k
 ·
  subst e
  exfalso
  rcases Nat.lt_or_ge j listed.size with h' | h'
  ·
   simp [h'] at h
  ·
   rw [Array.setIfInBounds_eq_of_size_le h', Array.getD_eq_getD_getElem?, Array.getElem?_eq_none h'] at h
   cases h
 ·
  rw [getD_set_ne true e] at h
  exact ⟨by simpa using h, fun e2 => e e2.symm⟩
theorem z67 {listed : Array Bool} {j : Nat} (h : pend S1 (listed.setIfInBounds j true) = true) : pend S1 listed = true := by
 obtain ⟨k, hk, h, _⟩ := z53 h
 unfold pend
 rw [List.any_eq_true]
 exact ⟨k, hk, by rw [h]; rfl⟩
structure Two (L1 L2 : World → World → Prop) : Prop where
 r1 : ∀ w, L1 w w
 r2 : ∀ w, L2 w w
 t1 : ∀ {a b c : World}, L1 a b → L1 b c → L1 a c
 t2 : ∀ {a b c : World}, L2 a b → L2 b c → L2 a c
 le : ∀ {a b : World}, L1 a b → L2 a b
theorem Two.e {o : Oper} {a b : World} (T : Two L1 L2) (h : relE L1 L2 ops S1 o a b) : L2 a b := by
 unfold relE at h
 split at h
 ·
  exact h
 ·
  exact T.le h
def cls2 (L1 L2 : World → World → Prop) (S1 : List Nat) (W : World) (σ : List (Nat × World)) (i : Nat) (o : Oper) (w' : World) : Prop := relC L1 L2 S1 i W w' ∧ ∀ p ∈ σ, zd5 o p.1 = true → relC L1 L2 S1 i p.2 w'
def Inv2 (L1 L2 : World → World → Prop) (ops : Array Oper) (S1 : List Nat) (W : World) (listed : Array Bool) (σ : List (Nat × World)) (w : World) : Prop := DC ops listed ∧ (L2 W w ∧ ∀ p ∈ σ, L2 p.2 w) ∧ (pend S1 listed = true → L1 W w ∧ ∀ p ∈ σ, L1 p.2 w)
theorem Inv2.cls {listed : Array Bool} {σ : List (Nat × World)} {w : World} (h : Inv2 L1 L2 ops S1 W listed σ w) {i : Nat} (hi : i ∈ Region.ready .any ops listed) (o : Oper) : cls2 L1 L2 S1 W σ i o w := by
 unfold cls2 relC
 by_cases hc : S1.contains i = true
 ·
  have hp : pend S1 listed = true := by
   unfold pend
   rw [List.any_eq_true]
   exact ⟨i, by simpa using hc, by rw [(mem_ready.1 hi).1]; rfl⟩
  obtain ⟨h1, h2⟩ := h.2.2 hp
  simp only [hc, if_true]
  exact ⟨h1, fun p hp _ => h2 p hp⟩
 ·
  simp only [hc]
  exact ⟨h.2.1.1, fun p hp _ => h.2.1.2 p hp⟩
theorem Inv2.step {listed : Array Bool} {σ : List (Nat × World)} {w : World} (h : Inv2 L1 L2 ops S1 W listed σ w) {j : Nat} (hj : j ∈ Region.ready .any ops listed) : Inv2 L1 L2 ops S1 W (listed.setIfInBounds j true) σ w := ⟨h.1.add hj, h.2.1, fun hp => h.2.2 (z67 hp)⟩
theorem Inv2.cons (T : Two L1 L2) {listed : Array Bool} {σ : List (Nat × World)} {w w' : World} (h : Inv2 L1 L2 ops S1 W listed σ w) {j : Nat} {oj : Oper} (ho : ops[j]? = some oj) (hj : j ∈ Region.ready .any ops listed) (hl : relE L1 L2 ops S1 oj w w') : Inv2 L1 L2 ops S1 W (listed.setIfInBounds j true) ((j, w') :: σ) w' := by
 refine ⟨h.1.add hj, ⟨T.t2 h.2.1.1 (T.e hl), fun p hp => ?_⟩, fun hp => ?_⟩
 ·
  rcases List.mem_cons.1 hp with rfl | hp
  ·
   exact T.r2 _
  ·
   exact T.t2 (h.2.1.2 p hp) (T.e hl)
 ·
  obtain ⟨k, hk, hkl, _⟩ := z53 hp
  have hn : zip ops S1 oj = false := by
   rw [← Bool.not_eq_true]
   intro hw
   have h0 := List.all_eq_true.1 hw k hk
   obtain ⟨_, o', ho', hall⟩ := mem_ready.1 hj
   rw [ho] at ho'
   have e1 := Option.some.inj ho'
   subst e1
   have h1 := zr9 h.1 8 oj hall h0
   rcases Nat.lt_or_ge k listed.size with h' | h'
   ·
    simp [h'] at h1 hkl; rw [hkl] at h1; cases h1
   ·
    simp [Array.getElem?_eq_none h'] at h1
  unfold relE at hl
  rw [hn, if_neg Bool.false_ne_true] at hl
  obtain ⟨h1, h2⟩ := h.2.2 (z67 hp)
  refine ⟨T.t1 h1 hl, fun p hp => ?_⟩
  rcases List.mem_cons.1 hp with rfl | hp
  ·
   exact T.r1 _
  ·
   exact T.t1 (h2 p hp) hl
def xOp2 (L1 L2 : World → World → Prop) (S1 : List Nat) (P : Program) (ops : Array Oper) (E : List Nat) (W : World) (i : Nat) (K : Act → World → List (Nat × World) → Prop) (a : Act) (w : World) (σ : List (Nat × World)) : Prop :=
 match ops[i]? with
 | none => K a w σ
 | some o =>
  if Region.wanted o (yielded ops a.tmps) = true then
   (if E.contains i = true then zes P o a w (fun v w' => relE L1 L2 ops S1 o w w' ∧ K (a.put o.dst v) w' ((i, w') :: σ)) else ∃ v, (∀ w', cls2 L1 L2 S1 W σ i o w' → zea P o a w' v) ∧ K (a.put o.dst v) w σ)
  else K (a.put o.dst undef) w σ
theorem zg2 (T : Two L1 L2) {listed : Array Bool} {i : Nat} {K K' : Act → World → List (Nat × World) → Prop} {a : Act} {w : World} {σ : List (Nat × World)} (hi : Inv2 L1 L2 ops S1 W listed σ w) (hr : i ∈ Region.ready .any ops listed) (h : ∀ a' w' σ', Inv2 L1 L2 ops S1 W (listed.setIfInBounds i true) σ' w' → K a' w' σ' → K' a' w' σ') (hh : xOp2 L1 L2 S1 P ops E W i K a w σ) : xOp2 L1 L2 S1 P ops E W i K' a w σ := by
 unfold xOp2 at *
 split
 ·
  exact h _ _ _ (hi.step hr) (by simpa [*] using hh)
 ·
  rename_i o ho
  simp only [ho] at hh
  split
  ·
   rename_i hw
   rw [if_pos hw] at hh
   split
   ·
    rename_i he
    rw [if_pos he] at hh
    exact zcp (fun v w' ⟨hl, hk⟩ => ⟨hl, h _ _ _ (hi.cons T ho hr hl) hk⟩) hh
   ·
    rename_i he
    rw [if_neg he] at hh
    obtain ⟨v, h1, h2⟩ := hh
    exact ⟨v, h1, h _ _ _ (hi.step hr) h2⟩
  ·
   rename_i hw
   rw [if_neg hw] at hh
   exact h _ _ _ (hi.step hr) hh
def wpX2 (L1 L2 : World → World → Prop) (S1 : List Nat) (P : Program) (ops : Array Oper) (E : List Nat) (W : World) (Q : Exit → Act → World → Prop) : Nat → Array Bool → Act → World → List (Nat × World) → Prop
 | 0, listed, a, w, _ => Region.ready .any ops listed = [] ∧ Q .normal a w
 | fuel + 1, listed, a, w, σ =>
  (Region.ready .any ops listed = [] → Q .normal a w) ∧
  ∀ i ∈ Region.ready .any ops listed, xOp2 L1 L2 S1 P ops E W i (fun a' w' σ' => wpX2 L1 L2 S1 P ops E W Q fuel (listed.setIfInBounds i true) a' w' σ') a w σ
theorem ze7 (T : Two L1 L2) : ∀ (fuel : Nat) (listed : Array Bool) (a : Act) (w : World) (σ : List (Nat × World)), Inv2 L1 L2 ops S1 W listed σ w → wpX2 L1 L2 S1 P ops E W Q fuel listed a w σ → wpAny P .any ops Q fuel listed a w
 | 0, _, _, _, _, _, h => h
 | fuel + 1, listed, a, w, σ, hi, h => ⟨h.1, fun i hm => by
  have := h.2 i hm
  unfold xOp2 at this
  unfold wpOp
  split
  ·
   rename_i ho
   simp only [ho] at this
   exact ze7 T fuel _ _ _ _ (hi.step hm) this
  ·
   rename_i o ho
   simp only [ho] at this
   split
   ·
    rename_i hw
    rw [if_pos hw] at this
    split at this
    ·
     exact .inl (zm1 (fun v w' ⟨hl, hk⟩ => ze7 T fuel _ _ _ _ (hi.cons T ho hm hl) hk) this)
    ·
     obtain ⟨v, h1, h2⟩ := this
     refine .inl (zm1 (K := fun u w' => u = v ∧ w' = w) (fun u w' ⟨e1, e2⟩ => by subst e1 e2; exact ze7 T fuel _ _ _ _ (hi.step hm) h2) ?_)
     have hv := h1 w (hi.cls hm o)
     unfold zea at hv
     unfold zes
     rcases hv with e1 | ⟨e1, e2⟩
     ·
      rw [e1]; exact ⟨rfl, rfl⟩
     ·
      rw [e1, e2]; exact ⟨rfl, rfl⟩
   ·
    rename_i hw
    rw [if_neg hw] at this
    exact ze7 T fuel _ _ _ _ (hi.step hm) this⟩
def YX2 (L1 L2 : World → World → Prop) (S1 : List Nat) (P : Program) (ops : Array Oper) (W : World) (i : Nat) (oi : Oper) (v : Value) (a : Act) (σ : List (Nat × World)) : Prop :=
 (Region.wanted oi (yielded ops a.tmps) = true ∧ ∀ w', cls2 L1 L2 S1 W σ i oi w' → zea P oi a w' v) ∨ (Region.wanted oi (yielded ops a.tmps) = false ∧ v = undef)
theorem YX2.xOp {i : Nat} {oi : Oper} {v : Value} {a : Act} {w : World} {σ : List (Nat × World)} (ho : ops[i]? = some oi) (hE : E.contains i = false ∨ Region.wanted oi (yielded ops a.tmps) = false) (h : YX2 L1 L2 S1 P ops W i oi v a σ) {K : Act → World → List (Nat × World) → Prop} (hk : K (a.put oi.dst v) w σ) : xOp2 L1 L2 S1 P ops E W i K a w σ := by
 unfold xOp2
 simp only [ho]
 rcases h with ⟨hw, h⟩ | ⟨hw, rfl⟩
 ·
  rw [if_pos hw]
  rcases hE with hE | hE
  ·
   rw [if_neg (by rw [hE]; exact Bool.false_ne_true)]; exact ⟨v, h, hk⟩
  ·
   rw [hw] at hE; cases hE
 ·
  rw [if_neg (by rw [hw]; exact Bool.false_ne_true)]; exact hk
theorem YX2.of_same {i : Nat} {oi : Oper} {v : Value} {a a' : Act} {σ σ' : List (Nat × World)} (hy : YX2 L1 L2 S1 P ops W i oi v a σ) (he : execOp a'.eval oi = execOp a.eval oi)
  (hw : Region.wanted oi (yielded ops a'.tmps) = Region.wanted oi (yielded ops a.tmps)) (hs : ∀ w', cls2 L1 L2 S1 W σ' i oi w' → cls2 L1 L2 S1 W σ i oi w') : YX2 L1 L2 S1 P ops W i oi v a' σ' := by
 unfold YX2 zea at *
 rw [he, hw]
 exact hy.imp (fun ⟨h1, h2⟩ => ⟨h1, fun w' h => h2 w' (hs w' h)⟩) id
theorem z1x {σ : List (Nat × World)} {i : Nat} {o : Oper} {p : Nat × World} {w' : World} (h : cls2 L1 L2 S1 W (p :: σ) i o w') : cls2 L1 L2 S1 W σ i o w' := ⟨h.1, fun q hq hw => h.2 q (List.mem_cons_of_mem _ hq) hw⟩
theorem zgi {σ : List (Nat × World)} {i : Nat} {o : Oper} {p : Nat × World} {w' : World} (hn : zd5 o p.1 = false) (h : cls2 L1 L2 S1 W σ i o w') : cls2 L1 L2 S1 W (p :: σ) i o w' := by
 refine ⟨h.1, fun q hq hw => ?_⟩
 rcases List.mem_cons.1 hq with rfl | hq
 ·
  rw [hn] at hw; cases hw
 ·
  exact h.2 q hq hw
theorem ylz {i j : Nat} {oi oj : Oper} {v : Value} (hj : ops[j]? = some oj) (hap : oi.apart ops oj = true)
  (hsi : ∀ cs b, oi.op ≠ .select cs b) (hsj : ∀ cs b, oj.op ≠ .select cs b) {K : Act → World → List (Nat × World) → Prop} {a : Act} {w : World} {σ : List (Nat × World)}
  (hy : YX2 L1 L2 S1 P ops W i oi v a σ) (h : xOp2 L1 L2 S1 P ops E W j K (a.put oi.dst v) w σ) :
  xOp2 L1 L2 S1 P ops E W j (fun a' w' σ' => YX2 L1 L2 S1 P ops W i oi v a' σ' ∧ K (a'.put oi.dst v) w' σ') a w σ := by
 obtain ⟨h1, h2, h3⟩ := Oper.apart_spec hap
 have keep : ∀ (u : Value) (σ' : List (Nat × World)), (∀ w', cls2 L1 L2 S1 W σ' i oi w' → cls2 L1 L2 S1 W σ i oi w') → YX2 L1 L2 S1 P ops W i oi v (a.put oj.dst u) σ' := fun u σ' hs =>
  hy.of_same (execOp_put oi hsi a oj.dst u h3) (wanted_put oi a oj.dst u h3) hs
 unfold xOp2 at *
 simp only [hj] at *
 rw [wanted_put oj a oi.dst v h1] at h
 split
 ·
  rename_i hw
  rw [if_pos hw] at h
  split
  ·
   rename_i he
   rw [if_pos he] at h
   unfold zes at h ⊢
   rw [execOp_put oj hsj a oi.dst v h1] at h
   exact zcp (P := P) (o := oj) (a := a) (w := w) (fun u w' ⟨hl, hk⟩ => ⟨hl, keep u _ (fun _ => z1x), by rw [← Act.put_comm a v u h2]; exact hk⟩) h
  ·
   rename_i he
   rw [if_neg he] at h
   obtain ⟨u, hu, hn⟩ := h
   refine ⟨u, fun w' hw' => ?_, keep u _ (fun _ h => h), by rw [← Act.put_comm a v u h2]; exact hn⟩
   have := hu w' hw'
   unfold zea at *
   rwa [execOp_put oj hsj a oi.dst v h1] at this
 ·
  rename_i hw
  rw [if_neg hw] at h
  exact ⟨keep _ _ (fun _ h => h), by rw [← Act.put_comm a v undef h2]; exact h⟩
theorem zkm (T : Two L1 L2) {i : Nat} {oi : Oper} {v : Value} (hi : ops[i]? = some oi) (hsel : ∀ (j : Nat) (o : Oper) cs b, ops[j]? = some o → o.op ≠ .select cs b) :
  ∀ (fuel : Nat) (listed : Array Bool) (a : Act) (w : World) (σ : List (Nat × World)), Inv2 L1 L2 ops S1 W listed σ w →
   (∀ j oj, ops[j]? = some oj → j ≠ i → listed.getD j true = false → (∀ e ∈ oj.after, Region.binds .any e = true → e.on ≠ i) → oi.apart ops oj = true) →
   i ∈ Region.ready .any ops listed → (E.contains i = false ∨ Region.wanted oi (yielded ops a.tmps) = false) → YX2 L1 L2 S1 P ops W i oi v a σ →
   wpX2 L1 L2 S1 P ops E W Q fuel (listed.setIfInBounds i true) (a.put oi.dst v) w σ → wpX2 L1 L2 S1 P ops E W Q (fuel + 1) listed a w σ := by
 intro fuel
 induction fuel with
 | zero =>
  intro listed a w σ _ _ hr hE hy H
  refine ⟨fun h => (by rw [h] at hr; cases hr), fun j hj => ?_⟩
  by_cases hji : j = i
  ·
   subst hji; exact hy.xOp hi hE H
  ·
   have := ready_mono hj hji
   rw [H.1] at this
   cases this
 | succ fuel ih =>
  intro listed a w σ hv hfree hr hE hy H
  refine ⟨fun h => (by rw [h] at hr; cases hr), fun j hj => ?_⟩
  by_cases hji : j = i
  ·
   subst hji; exact hy.xOp hi hE H
  ·
   have h1 := H.2 j (ready_mono hj hji)
   obtain ⟨hjun, oj, hoj, hall⟩ := mem_ready.1 hj
   have hnot := zic hr hall
   have hap := hfree j oj hoj hji hjun hnot
   have h2 := ylz hoj hap (fun cs b => hsel i oi cs b hi) (fun cs b => hsel j oj cs b hoj) hy h1
   have hfree' : ∀ k ok, ops[k]? = some ok → k ≠ i → (listed.setIfInBounds j true).getD k true = false →
     (∀ e ∈ ok.after, Region.binds .any e = true → e.on ≠ i) → oi.apart ops ok = true := fun k ok hk hki hun hno => by
    refine hfree k ok hk hki ?_ hno
    by_cases hjk : j = k
    ·
     subst hjk; exact hjun
    ·
     rw [getD_set_ne true hjk] at hun; exact hun
   have hkeep : ∀ u, Region.wanted oi (yielded ops (a.put oj.dst u).tmps) = Region.wanted oi (yielded ops a.tmps) := fun u => wanted_put oi a oj.dst u (Oper.apart_spec hap).2.2
   have h3 : xOp2 L1 L2 S1 P ops E W j (fun a' w' σ' => (E.contains i = false ∨ Region.wanted oi (yielded ops a'.tmps) = false) ∧ YX2 L1 L2 S1 P ops W i oi v a' σ' ∧ wpX2 L1 L2 S1 P ops E W Q fuel ((listed.setIfInBounds i true).setIfInBounds j true) (a'.put oi.dst v) w' σ') a w σ := by
    unfold xOp2 at h2 ⊢
    simp only [hoj] at h2 ⊢
    split
    ·
     rename_i hw
     rw [if_pos hw] at h2
     split
     ·
      rename_i he
      rw [if_pos he] at h2
      exact zcp (fun u w' ⟨hl, hk⟩ => ⟨hl, by rw [hkeep u]; exact hE, hk⟩) h2
     ·
      rename_i he
      rw [if_neg he] at h2
      obtain ⟨u, hu, hk⟩ := h2
      exact ⟨u, hu, by rw [hkeep u]; exact hE, hk⟩
    ·
     rename_i hw
     rw [if_neg hw] at h2
     exact ⟨by rw [hkeep undef]; exact hE, h2⟩
   refine zg2 T hv hj (fun a' w' σ' hv' h4 => ih (listed.setIfInBounds j true) a' w' σ' hv' hfree' (ready_mono hr (Ne.symm hji)) h4.1 h4.2.1 ?_) h3
   rw [Array.setIfInBounds_comm _ _ hji]
   exact h4.2.2
theorem z2v (_ : Two L1 L2) {i : Nat} {oi : Oper} (hi : ops[i]? = some oi) (hE : E.contains i = true) (hc : zew ops E = true) (hsel : ∀ (j : Nat) (o : Oper) cs b, ops[j]? = some o → o.op ≠ .select cs b) :
  ∀ (fuel : Nat) (listed : Array Bool) (a : Act) (w : World) (σ : List (Nat × World)), Inv2 L1 L2 ops S1 W listed σ w → DC ops listed →
   (∀ j oj, ops[j]? = some oj → j ≠ i → listed.getD j true = false → (∀ e ∈ oj.after, Region.binds .any e = true → e.on ≠ i) → oi.apart ops oj = true) →
   i ∈ Region.ready .any ops listed → Region.wanted oi (yielded ops a.tmps) = true →
   zes P oi a w (fun v w' => relE L1 L2 ops S1 oi w w' ∧ wpX2 L1 L2 S1 P ops E W Q fuel (listed.setIfInBounds i true) (a.put oi.dst v) w' ((i, w') :: σ)) → wpX2 L1 L2 S1 P ops E W Q (fuel + 1) listed a w σ := by
 intro fuel
 induction fuel with
 | zero =>
  intro listed a w σ _ _ _ hr hw H
  refine ⟨fun h => (by rw [h] at hr; cases hr), fun j hj => ?_⟩
  by_cases hji : j = i
  ·
   subst hji; unfold xOp2; simp only [hi]; rw [if_pos hw, if_pos hE]; exact H
  ·
   obtain ⟨v, w', _, h0⟩ := zk7 H
   have := ready_mono hj hji
   rw [h0.1] at this
   cases this
 | succ fuel ih =>
  intro listed a w σ hv hdc hfree hr hw H
  refine ⟨fun h => (by rw [h] at hr; cases hr), fun j hj => ?_⟩
  by_cases hji : j = i
  ·
   subst hji; unfold xOp2; simp only [hi]; rw [if_pos hw, if_pos hE]; exact H
  ·
   obtain ⟨hjun, oj, hoj, hall⟩ := mem_ready.1 hj
   have hnot := zic hr hall
   have hap := hfree j oj hoj hji hjun hnot
   obtain ⟨a1, a2, a3⟩ := Oper.apart_spec hap
   have hsi := fun cs b => hsel i oi cs b hi
   have hsj := fun cs b => hsel j oj cs b hoj
   have hjE : ¬ E.contains j = true := fun h => hji (zn0 hdc E hc j i (by simpa using h) (by simpa using hE) hj hr)
   have hnw : zd5 oj i = false := by
    cases h : zd5 oj i with
    | false => rfl
    | true => obtain ⟨e, he, hb, hon⟩ := zeo h; exact absurd hon (hnot e he hb)
   have hfree' : ∀ k ok, ops[k]? = some ok → k ≠ i → (listed.setIfInBounds j true).getD k true = false →
     (∀ e ∈ ok.after, Region.binds .any e = true → e.on ≠ i) → oi.apart ops ok = true := fun k ok hk hki hun hno => by
    refine hfree k ok hk hki ?_ hno
    by_cases hjk : j = k
    ·
     subst hjk; exact hjun
    ·
     rw [getD_set_ne true hjk] at hun; exact hun
   have hr' := ready_mono hr (Ne.symm hji)
   have next : ∀ u, (∀ v w', wpX2 L1 L2 S1 P ops E W Q (fuel + 1) (listed.setIfInBounds i true) (a.put oi.dst v) w' ((i, w') :: σ) → wpX2 L1 L2 S1 P ops E W Q fuel ((listed.setIfInBounds i true).setIfInBounds j true) ((a.put oi.dst v).put oj.dst u) w' ((i, w') :: σ)) →
     wpX2 L1 L2 S1 P ops E W Q (fuel + 1) (listed.setIfInBounds j true) (a.put oj.dst u) w σ := fun u hn => by
    refine ih (listed.setIfInBounds j true) (a.put oj.dst u) w σ (hv.step hj) (hdc.add hj) hfree' hr' (by rw [wanted_put oi a oj.dst u a3]; exact hw) ?_
    have H2 := zcp (fun v w' ⟨hl, hk⟩ => (⟨hl, hn v w' hk⟩ : relE L1 L2 ops S1 oi w w' ∧ _)) H
    unfold zes at H2 ⊢
    rw [execOp_put oi hsi a oj.dst u a3]
    refine zcp (P := P) (o := oi) (a := a) (w := w) (fun v w' ⟨hl, hk⟩ => ⟨hl, ?_⟩) H2
    rw [Array.setIfInBounds_comm _ _ hji, ← Act.put_comm a v u a2]
    exact hk
   obtain ⟨v0, w0, hl0, H0⟩ := zk7 H
   have h1 := H0.2 j (ready_mono hj hji)
   unfold xOp2 at h1 ⊢
   simp only [hoj] at h1 ⊢
   rw [wanted_put oj a oi.dst v0 a1] at h1
   split
   ·
    rename_i hwj
    rw [if_pos hwj, if_neg hjE] at h1
    obtain ⟨c, hc1, hc2⟩ := h1
    have hval : ∀ w', cls2 L1 L2 S1 W σ j oj w' → zea P oj a w' c := fun w' hw' => by
     have := hc1 w' (zgi hnw hw')
     unfold zea at *
     rwa [execOp_put oj hsj a oi.dst v0 a1] at this
    refine ⟨c, hval, next c fun v w' hk => ?_⟩
    have h2 := hk.2 j (ready_mono hj hji)
    unfold xOp2 at h2
    simp only [hoj] at h2
    rw [wanted_put oj a oi.dst v a1, if_pos hwj, if_neg hjE] at h2
    obtain ⟨c', hc1', hc2'⟩ := h2
    have e : c' = c := by
     refine zta ?_ (hval w (hv.cls hj oj))
     have := hc1' w (zgi hnw (hv.cls hj oj))
     unfold zea at *
     rwa [execOp_put oj hsj a oi.dst v a1] at this
    subst e
    exact hc2'
   ·
    rename_i hwj
    refine next undef fun v w' hk => ?_
    have h2 := hk.2 j (ready_mono hj hji)
    unfold xOp2 at h2
    simp only [hoj] at h2
    rw [wanted_put oj a oi.dst v a1, if_neg hwj] at h2
    exact h2
def wpXT (L1 L2 : World → World → Prop) (S1 : List Nat) (P : Program) (ops : Array Oper) (E : List Nat) (W : World) (Q : Exit → Act → World → Prop) : Nat → List Oper → Act → World → List (Nat × World) → Prop
 | _, [], a, w, _ => Q .normal a w
 | k, o :: rest, a, w, σ =>
  if Region.wanted o (yielded ops a.tmps) = true then
   (if E.contains k = true then zes P o a w (fun v w' => relE L1 L2 ops S1 o w w' ∧ wpXT L1 L2 S1 P ops E W Q (k + 1) rest (a.put o.dst v) w' ((k, w') :: σ)) else ∃ v, (∀ w', cls2 L1 L2 S1 W σ k o w' → zea P o a w' v) ∧ wpXT L1 L2 S1 P ops E W Q (k + 1) rest (a.put o.dst v) w σ)
  else wpXT L1 L2 S1 P ops E W Q (k + 1) rest (a.put o.dst undef) w σ
theorem z6f (T : Two L1 L2) (hs : Region.noSelect ops = true) (hc : zew ops E = true) : ∀ (l : List Oper) (k : Nat) (listed : Array Bool) (a : Act) (w : World) (σ : List (Nat × World)), Inv2 L1 L2 ops S1 W listed σ w → DC ops listed → (∀ j, l[j]? = ops[k + j]?) →
  Region.lexFrom .any ops l.length k listed = true → wpXT L1 L2 S1 P ops E W Q k l a w σ → wpX2 L1 L2 S1 P ops E W Q l.length listed a w σ
 | [], _, _, _, _, _, _, _, _, hB, h => ⟨by simpa [Region.lexFrom] using hB, h⟩
 | o :: l, k, listed, a, w, σ, hv, hd, hl, hB, h => by
  have h0 : ops[k]? = some o := by simpa using (hl 0).symm
  simp only [List.length_cons, Region.lexFrom, Bool.and_eq_true] at hB
  obtain ⟨⟨hr, hf⟩, hB'⟩ := hB
  have hr' : k ∈ Region.ready .any ops listed := by simpa using hr
  have next : ∀ a' w' σ', Inv2 L1 L2 ops S1 W (listed.setIfInBounds k true) σ' w' → wpXT L1 L2 S1 P ops E W Q (k + 1) l a' w' σ' → wpX2 L1 L2 S1 P ops E W Q l.length (listed.setIfInBounds k true) a' w' σ' := fun a' w' σ' hv' h' =>
   z6f T hs hc l (k + 1) _ a' w' σ' hv' (hd.add hr') (fun j => by have := hl (j + 1); simpa [Nat.add_assoc, Nat.add_comm 1 j] using this) hB' h'
  unfold wpXT at h
  split at h
  ·
   rename_i hw
   split at h
   ·
    rename_i hE
    exact z2v T h0 hE hc (Region.noSelect_spec hs) l.length listed a w σ hv hd (Region.free_spec h0 hf) hr' hw (zcp (fun v w' ⟨hl', hk⟩ => ⟨hl', next _ _ _ (hv.cons T h0 hr' hl') hk⟩) h)
   ·
    rename_i hE
    obtain ⟨v, h1, h2⟩ := h
    exact zkm T h0 (Region.noSelect_spec hs) l.length listed a w σ hv (Region.free_spec h0 hf) hr' (.inl (by simpa using hE)) (.inl ⟨hw, h1⟩) (next _ _ _ (hv.step hr') h2)
  ·
   rename_i hw
   have hw' : Region.wanted o (yielded ops a.tmps) = false := by simpa using hw
   exact zkm T h0 (Region.noSelect_spec hs) l.length listed a w σ hv (Region.free_spec h0 hf) hr' (.inr hw') (.inr ⟨hw', rfl⟩) (next _ _ _ (hv.step hr') h)
def La (B : Nat) (a b : World) : Prop := B ≤ a.heap.size → Lq a b
def Lb (B : Nat) (a b : World) : Prop := B ≤ a.heap.size → (Below B a b ∧ B ≤ b.heap.size)
theorem two (B : Nat) : Two (La B) (Lb B) :=
 {
  r1 := fun w _ => Lq.refl w
  r2 := fun _ hw => ⟨Below.refl _ _, hw⟩
  t1 := fun h k hw => (h hw).trans (k (Nat.le_trans hw (h hw).size))
  t2 := fun h k hw => ⟨(h hw).1.trans (k (h hw).2).1, (k (h hw).2).2⟩
  le := fun h hw => ⟨(h hw).mono hw, Nat.le_trans hw (h hw).size⟩ }
theorem zdj (B : Nat) (S1 E : List Nat) {id : Nat} {a : Act} {w : World} {l : List Oper} (hm : P.follows .mixedOrders = true) (hB : Region.lexB .any l.toArray = true) (hc : zew l.toArray E = true)
  (h : wpXT (La B) (Lb B) S1 P l.toArray E w.drew Q 0 l a w.drew []) : (Code.region id l.toArray true).wp P Q a w := by
 simp only [Region.lexB, Bool.and_eq_true] at hB
 refine wp_region_any hm ?_
 have hd : DC l.toArray (Array.replicate l.toArray.size false) := fun k o _ hl => by
  rw [Array.getD_eq_getD_getElem?, Array.getElem?_replicate] at hl
  split at hl <;> simp at hl
 have hI : Inv2 (La B) (Lb B) l.toArray S1 w.drew (Array.replicate l.toArray.size false) [] w.drew := ⟨hd, ⟨(two B).r2 _, by simp⟩, fun _ => ⟨(two B).r1 _, by simp⟩⟩
 refine ze7 (two B) (S1 := S1) (E := E) (W := w.drew) _ _ _ _ [] hI ?_
 have := z6f (P := P) (two B) (S1 := S1) (W := w.drew) (Q := Q) hB.1 hc l 0 (Array.replicate l.toArray.size false) a w.drew [] hI hd (by simp) (by simpa using hB.2) h
 simpa using this
theorem zcw {B : Nat} {o : Oper} {w w' : World} (h : Below w.heap.size w w') : relE (La B) (Lb B) ops S1 o w w' := by
 unfold relE
 split
 ·
  exact (two B).le fun _ => h
 ·
  exact fun _ => h
theorem zcr {B : Nat} {o : Oper} {w w' : World} (ho : zip ops S1 o = true) (h : Below B w w') : relE (La B) (Lb B) ops S1 o w w' := by
 unfold relE
 rw [if_pos ho]
 exact fun hw => ⟨h, Nat.le_trans hw h.size⟩
theorem zk4 {k : Nat} {a : Act} {w : World} {σ : List (Nat × World)} (h : Q .normal a w) : wpXT L1 L2 S1 P ops E W Q k [] a w σ := h
theorem zto {k : Nat} {o : Oper} {rest : List Oper} {a : Act} {w : World} {σ : List (Nat × World)} (hE : E.contains k = false) (hp : zd6 o.op = true) (C : World → Prop) (h0 : ∀ w', cls2 L1 L2 S1 W σ k o w' → C w')
  (h : wpQuiet P ops C (fun a' => wpXT L1 L2 S1 P ops E W Q (k + 1) rest a' w σ) [o] a) : wpXT L1 L2 S1 P ops E W Q k (o :: rest) a w σ := by
 unfold wpXT
 unfold wpQuiet at h
 split
 ·
  rename_i hw
  rw [if_pos hw] at h
  rw [if_neg (by rw [hE]; exact Bool.false_ne_true)]
  obtain ⟨v, h1, h2⟩ := h
  refine ⟨v, fun w' hw' => ?_, h2⟩
  have := h1 w' (h0 w' hw')
  unfold Oper.quietAt at this
  unfold zea
  have hne := fun f args w'' => zfp (P := P) hp (ρ := a.eval) (w := w') (w' := w'') (f := f) (args := args)
  generalize (execOp a.eval o).run P w' = r at *
  cases r with
  | ok n w1 =>
   cases n <;> simp only [Oper.quietUpon] at this
   case value u => obtain ⟨rfl, rfl⟩ := this; exact .inl rfl
   case skip => obtain ⟨rfl, rfl⟩ := this; exact .inr ⟨rfl, rfl⟩
   case enter f args => exact absurd rfl (hne f args w1)
  | halt x w1 => simp only [Oper.quietUpon] at this
 ·
  rename_i hw
  rw [if_neg hw] at h
  exact h
theorem zfc {B : Nat} {k : Nat} {o : Oper} {rest : List Oper} {a : Act} {w : World} {σ : List (Nat × World)} (hE : E.contains k = false) (hS : S1.contains k = true) (hp : zd6 o.op = true) (hW : B ≤ W.heap.size)
  (h : wpQuiet P ops (fun w' => ∃ p : Wd W, w' = p.w) (fun a' => wpXT (La B) (Lb B) S1 P ops E W Q (k + 1) rest a' w σ) [o] a) : wpXT (La B) (Lb B) S1 P ops E W Q k (o :: rest) a w σ :=
 zto hE hp _ (fun w' hw' => ⟨⟨w', by have := hw'.1; unfold relC at this; rw [if_pos hS] at this; exact this hW⟩, rfl⟩) h
theorem zbq {B : Nat} {k : Nat} {o : Oper} {rest : List Oper} {a : Act} {w : World} {σ : List (Nat × World)} (hE : E.contains k = false) (hS : S1.contains k = false) (hp : zd6 o.op = true) (hW : B ≤ W.heap.size)
  (h : wpQuiet P ops (fun w' => ∃ p : WdB B W, w' = p.w) (fun a' => wpXT (La B) (Lb B) S1 P ops E W Q (k + 1) rest a' w σ) [o] a) : wpXT (La B) (Lb B) S1 P ops E W Q k (o :: rest) a w σ :=
 zto hE hp _ (fun w' hw' => ⟨⟨w', by have := hw'.1; unfold relC at this; rw [hS, if_neg Bool.false_ne_true] at this; exact (this hW).1⟩, rfl⟩) h
theorem zhy {B : Nat} {k : Nat} {o : Oper} {rest : List Oper} {a : Act} {w : World} {σ : List (Nat × World)} (hE : E.contains k = true) (hw : Region.wanted o (yielded ops a.tmps) = true) {f : FuncId} {xs : Array Operand} {ts : Array TypeId}
  (ho : o.op = .call { callee := .value (.func f), args := xs, argTypes := ts }) (hen : ∀ args w, (callFunc f args).run P w = .ok (.enter f args) w)
  (args : Array Value) (hargs : xs.toList.map a.eval = args.toList) (h : Calls P f args w fun e w' => ∃ v, e = .returned v ∧ Below w.heap.size w w' ∧ wpXT (La B) (Lb B) S1 P ops E W Q (k + 1) rest (a.put o.dst v) w' ((k, w') :: σ)) : wpXT (La B) (Lb B) S1 P ops E W Q k (o :: rest) a w σ := by
 unfold wpXT
 rw [if_pos hw, if_pos hE]
 unfold zes
 have hargs : xs.map a.eval = args := Array.toList_inj.1 (by rw [Array.toList_map]; exact hargs)
 subst hargs
 have : (execOp a.eval o).run P w = .ok (.enter f (xs.map a.eval)) w := by
  unfold execOp
  simp [ho, resolve, invoke, Act.eval, Deferred.ofValue, hen]
 rw [this]
 exact Calls.mono h fun e w' ⟨v, he, hb, hk⟩ => ⟨v, he, zcw hb, hk⟩
theorem znr {k : Nat} {o : Oper} {rest : List Oper} {a : Act} {w : World} {σ : List (Nat × World)} (hE : E.contains k = true) (hw : Region.wanted o (yielded ops a.tmps) = true) (v : Value) (w' : World)
  (hrun : (execOp a.eval o).run P w = .ok (.value v) w') (hl : relE L1 L2 ops S1 o w w') (h : wpXT L1 L2 S1 P ops E W Q (k + 1) rest (a.put o.dst v) w' ((k, w') :: σ)) : wpXT L1 L2 S1 P ops E W Q k (o :: rest) a w σ := by
 unfold wpXT
 rw [if_pos hw, if_pos hE]
 unfold zes
 rw [hrun]
 exact ⟨hl, h⟩
theorem zid {k : Nat} {o : Oper} {rest : List Oper} {a : Act} {w : World} {σ : List (Nat × World)} (hE : E.contains k = true) (hw : Region.wanted o (yielded ops a.tmps) = true) (w' : World)
  (hrun : (execOp a.eval o).run P w = .ok .skip w') (hl : relE L1 L2 ops S1 o w w') (h : wpXT L1 L2 S1 P ops E W Q (k + 1) rest (a.put o.dst undef) w' ((k, w') :: σ)) : wpXT L1 L2 S1 P ops E W Q k (o :: rest) a w σ := by
 unfold wpXT
 rw [if_pos hw, if_pos hE]
 unfold zes
 rw [hrun]
 exact ⟨hl, h⟩
attribute [irreducible] wpXT
end
open Go.RowKit
section
variable {α : Type} {E : Lie α} {P : Program}
structure zll (P : Program) (E : Lie α) (T : TypeId) (bytes : Nat) : Prop where
 slice : P.underlying T = some (.slice E.t)
 info : ∃ z : Value, (P.info? E.t).map (fun i => (i.zero, i.size, i.bytes)) = some (some z, E.n, bytes) ∧ z.cells.size = E.n
theorem zjo {T : TypeId} {bytes : Nat} (K : zll P E T bytes) (w : World) (ty : TypeId) (base : Nat) (v : Value) (k : List α) (hown : OwnE E w base v k) (vx : Value) (l : List α) (hsl : SlE E w vx l) (hlen : k.length + l.length ≤ maxLen) (hb : (k.length + l.length) * bytes ≤ 140737488355328) (hbase : base ≤ w.heap.size) :
  ∃ v' w', (Builtin.append_ #[T, T] ty #[v, vx]).run P w = .ok v' w' ∧ OwnE E w' base v' (k ++ l) ∧ Gr w v w' v' := by
 obtain ⟨z, hinf, hzs⟩ := K.info
 obtain ⟨i, hi, hz0, hz1, hz2⟩ := info_parts hinf
 by_cases hn : l = []
 ·
  subst hn
  obtain ⟨p, cap, rfl, _⟩ := hsl
  exact ⟨v, w, zi5 (P := P) (w := w) base T ty E.t i E.n K.slice hi v k.length _ hown p cap, by simpa using hown, Gr.refl _ _⟩
 ·
  obtain ⟨b, off, cap, rfl, _, _, hc⟩ := zc8 hsl (List.length_pos_iff.2 hn)
  obtain ⟨v', w', h1, h2, h3, _, h5⟩ := run_append_own_at (P := P) w base T ty E.t i z E.n bytes K.slice hi hz0 hz1 hz2 hzs E.pos v k.length (zan E k) hown ⟨b, off, none⟩ l.length cap (zan E l) (zbd E l) (zsw hc) (zu7 E l) hlen hb hbase
  refine ⟨v', w', h1, ?_, h3, h5.imp id fun e q hq => ?_⟩
  ·
   unfold OwnE; rw [List.length_append, zdz]; exact h2
  ·
   rw [e] at hq; injection hq with hq; omega
theorem zc1 {T : TypeId} {bytes : Nat} (K : zll P E T bytes) (w : World) {ops : Array Oper} {rest : List Oper} {o : Oper} {a : Act} {Q : Exit → Act → World → Prop} (hgd : o.guard = none) (s x : Operand)
  (ho : o.op = .call { callee := .builtin .append, args := #[s, x], argTypes := #[T, T] })
  (base : Nat) (v : Value) (k : List α) (hs : a.eval s = v) (hown : OwnE E w base v k) (vx : Value) (l : List α) (hx : a.eval x = vx) (hsl : SlE E w vx l)
  (hlen : k.length + l.length ≤ maxLen) (hb : (k.length + l.length) * bytes ≤ 140737488355328) (hbase : base ≤ w.heap.size)
  (h : ∀ v' w', OwnE E w' base v' (k ++ l) → Gr w v w' v' → wpList P ops Q rest (a.put o.dst v') w') : wpList P ops Q (o :: rest) a w :=
 wpList_plain hgd fun K' hK => by
  obtain ⟨v', w', hr, h2, h3⟩ := zjo K w o.type base v k hown vx l hsl hlen hb hbase
  unfold Oper.wp execOp
  simp only [ho, resolve, invoke, builtin, Sem.run_bind, Sem.run_pure, Result.andThen_ok, List.map_toArray, List.map_cons, List.map_nil, hs, hx, hr]
  exact hK _ _ (h v' w' h2 h3)
end
open Go.RowKit
section
variable {P : Program} {ops : Array Oper} {E S1 : List Nat} {W : World} {Q : Exit → Act → World → Prop}
theorem ztf {α : Type} {Ea : Lie α} {T : TypeId} {bytes : Nat} (K : zll P Ea T bytes) {B k : Nat} {o : Oper} {rest : List Oper} {a : Act} {w : World} {σ : List (Nat × World)} (hE : E.contains k = true) (hgd : o.guard = none) (hS : zip ops S1 o = true) (s x : Operand)
  (ho : o.op = .call { callee := .builtin .append, args := #[s, x], argTypes := #[T, T] })
  (base : Nat) (v : Value) (ks : List α) (hs : a.eval s = v) (hown : OwnE Ea w base v ks) (vx : Value) (l : List α) (hx : a.eval x = vx) (hsl : SlE Ea w vx l)
  (hlen : ks.length + l.length ≤ maxLen) (hb : (ks.length + l.length) * bytes ≤ 140737488355328) (hbase : base ≤ w.heap.size) (hB : B ≤ base)
  (h : ∀ v' w', OwnE Ea w' base v' (ks ++ l) → Gr w v w' v' → wpXT (La B) (Lb B) S1 P ops E W Q (k + 1) rest (a.put o.dst v') w' ((k, w') :: σ)) : wpXT (La B) (Lb B) S1 P ops E W Q k (o :: rest) a w σ := by
 obtain ⟨v', w', hr, h2, h3⟩ := zjo K w o.type base v ks hown vx l hsl hlen hb hbase
 refine znr hE (by simp [Region.wanted, hgd]) v' w' ?_ (zcr hS ((h3.own hown hbase).mono hB)) (h v' w' h2 h3)
 unfold execOp
 simp only [ho, resolve, invoke, builtin, Sem.run_bind, Sem.run_pure, Result.andThen_ok, List.map_toArray, List.map_cons, List.map_nil, hs, hx, hr]
end
theorem zva {B : Nat} {w : World} {b o n : Nat} {c : Array Value} (h : ldA w (.pointer (some ⟨b, o, none⟩)) n = some c) (hb : b < B) (p : WdB B w.drew) : ldA p.w (.pointer (some ⟨b, o, none⟩)) n = some c :=
 (zrg p.h b o n hb).trans (by rw [zyr]; exact h)
theorem z72 {B : Nat} {w : World} {b o : Nat} {v : Value} (h : w.cell? ⟨b, o, none⟩ = some v) (hb : b < B) (p : WdB B w.drew) : p.w.cell? ⟨b, o, none⟩ = some v := (p.h.cell (p := ⟨b, o, none⟩) hb).trans h
theorem zpe {w : World} {b n : Nat} {c c' : Array Value} {t : TypeId} (hg : w.heap[b]? = some (.cells c t (0, 0))) (hn : c.size = n) (hn' : c'.size = n) : ldA (stA w (.pointer (some ⟨b, 0, none⟩)) (.agg c')) (.pointer (some ⟨b, 0, none⟩)) n = some c' :=
 zfy (za8 hg hn) hn'
theorem z6k {α : Type} {E : Lie α} {w : World} {v x : Value} {l : List α} {b : Nat} (h : SlE E w v l) (hb : v.ownBlock ≠ some b) : SlE E (stA w (.pointer (some ⟨b, 0, none⟩)) x) v l :=
 ze5 h (by rw [zmr]; exact Nat.le_refl _) (fun k _ hk => zc0 (fun e => hb (by rw [hk, e])))
theorem yni {α : Type} {E : Lie α} {w : World} {v x : Value} {l : List α} {b o : Nat} (h : SlE E w v l) (hb : v.ownBlock ≠ some b) : SlE E (w.setCell ⟨b, o, none⟩ x) v l :=
 ze5 h (Nat.le_of_eq (by simp [World.setCell])) (fun k _ hk => by rw [Below.heap_setCell _ _ _ _ (fun e => hb (by rw [hk, e]))])
open Go.RowKit
section
variable {P : Program} {ops : Array Oper} {Q : Exit → Act → World → Prop} {md : Region.Mode} {lo n : Nat}
def ztd (ops : Array Oper) : Bool := ops.all fun o => match o.op with | .defer _ => false | _ => true
theorem z0g (h : ztd ops = true) {i : Nat} {o : Oper} (hi : ops[i]? = some o) : ∀ c, o.op ≠ .defer c := by
 intro c e
 obtain ⟨hl, rfl⟩ := Array.getElem?_eq_some_iff.1 hi
 have := Array.all_eq_true.1 h i hl
 rw [e] at this
 cases this
theorem z1t {o : Oper} {a : Act} {K : Act → World → Prop} {r : Result Next} (h : o.upon P a K Q r) : o.uponIn (Fence.wide.inRound lo) n P a K Q r := by
 cases r with
 | ok x w' =>
  cases x with
  | value v => exact h
  | skip => exact h
  | defer d => exact h
  | enter f args => exact ⟨fun h => (by cases h), CallsIn.inRound lo (callsIn_wide.2 h)⟩
  | row row args => exact ⟨fun h => (by cases h), fun c cs _ => let ⟨v, w'', r, s⟩ := h c cs; ⟨v, w'', r, stepsIn_wide.2 s⟩⟩
  | round l f tmps assign body => exact h.elim
  | _ => exact h.elim
 | halt x w' =>
  cases x with
  | panic v => exact h
  | _ => exact h.elim
theorem z1w (hQ : ¬ LetsOut Q) (hd : ztd ops = true) {i : Nat} {K K' : Act → World → Prop} {a : Act} {w : World} (hk : ∀ a w, K a w → K' a w) (h : wpOp P ops Q i K a w) : wpOpIn (Fence.wide.inRound lo) n P ops Q i K' a w := by
 refine wpOpIn_mono hk ?_
 unfold wpOp at h
 unfold wpOpIn
 split
 ·
  rename_i e
  simp only [e] at h
  exact h
 ·
  rename_i o e
  simp only [e] at h
  split
  ·
   rename_i hw
   rw [if_pos hw] at h
   have h := h.resolve_right fun x => hQ x.2
   unfold Oper.wpIn
   refine ⟨fun _ _ => trivial, ?_⟩
   rw [Oper.semAt_eq _ _ _ (z0g hd e)]
   exact z1t h
  ·
   rename_i hw
   rw [if_neg hw] at h
   exact ⟨fun _ _ => trivial, h⟩
theorem zm7 (hQ : ¬ LetsOut Q) (hd : ztd ops = true) : ∀ (fuel : Nat) (listed : Array Bool) (a : Act) (w : World), wpAny P md ops Q fuel listed a w → wpAnyIn (Fence.wide.inRound lo) n P md ops Q fuel listed a w
 | 0, _, _, _, h => h
 | fuel + 1, _, _, _, h => ⟨h.1, fun i hi => z1w hQ hd (fun _ _ hk => zm7 hQ hd fuel _ _ _ hk) (h.2 i hi)⟩
def Thru (Q : Exit → Act → World → Prop) (e : Exit) (a : Act) (w : World) : Prop := e = .normal ∧ Q .normal a w
theorem ykd : ¬ LetsOut (Thru Q) := fun ⟨_, _, h, _⟩ => by cases h
theorem z28 {L : World → World → Prop} (lr : ∀ w, L w w) (lt : ∀ {a b c : World}, L a b → L b c → L a c) (E : List Nat) {id : Nat} {a : Act} {w : World} {l : List Oper} (hd : ztd l.toArray = true) (hm : P.follows .mixedOrders = true) (hB : Region.lexB .any l.toArray = true) (hc : zew l.toArray E = true)
  (h : wpXL L P l.toArray E w.drew (Thru Q) 0 l a w.drew []) : (Code.region id l.toArray true).wpIn (Fence.wide.inRound lo) n P Q a w := by
 simp only [Region.lexB, Bool.and_eq_true] at hB
 refine wpIn_mono (Q := Thru Q) (wpIn_region_any hm (zm7 ykd hd _ _ _ _ (zgo (L := L) lr lt (E := E) (W := w.drew) _ _ _ _ [] ⟨lr _, by simp⟩ ?_))) (fun e a w hh => by obtain ⟨rfl, hh⟩ := hh; exact hh)
 have hd : DC l.toArray (Array.replicate l.toArray.size false) := fun k o _ hl => by
  rw [Array.getD_eq_getD_getElem?, Array.getElem?_replicate] at hl
  split at hl <;> simp at hl
 have := z21 (P := P) (L := L) lr lt (E := E) (W := w.drew) (Q := Thru Q) hB.1 hc l 0 (Array.replicate l.toArray.size false) a w.drew [] ⟨lr _, by simp⟩ hd (by simp) (by simpa using hB.2) h
 simpa using this
theorem zi8 (E : List Nat) {id : Nat} {a : Act} {w : World} {l : List Oper} (hd : ztd l.toArray = true) (hm : P.follows .mixedOrders = true) (hB : Region.lexB .any l.toArray = true) (hc : zew l.toArray E = true)
  (h : wpXL Lq P l.toArray E w.drew (Thru Q) 0 l a w.drew []) : (Code.region id l.toArray true).wpIn (Fence.wide.inRound lo) n P Q a w := z28 Lq.refl (fun h k => Lq.trans h k) E hd hm hB hc h
end
end Go.Proofs.YtmihlihlpdkdcaaGreat
