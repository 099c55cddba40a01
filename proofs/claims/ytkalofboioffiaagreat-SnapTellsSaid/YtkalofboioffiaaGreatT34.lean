import Derived.RangeFuncSeq
import Derived.Test.YtkalofboioffiaaGreatT25
namespace Go.Proofs.YtkalofboioffiaaGreat
open Go.RowKit
set_option maxRecDepth 200000
set_option maxHeartbeats 64000000
open Go.RowKit
section
variable {P : Program} {ops : Array Oper} {E S1 : List Nat} {L1 L2 : World → World → Prop} {W : World} {Q : Exit → Act → World → Prop} {nF : Nat}
def zf0 (nF : Nat) (P : Program) (K : Value → World → Prop) : Result Next → Prop
 | .ok (.value v) w' => K v w'
 | .ok .skip w' => K undef w'
 | .ok (.enter f args) w' => Calls P f args w' fun e w'' => ∃ v, e = .returned v ∧ K v w''
 | .ok (.round l f tmps assign body) w' => RoundIn Fence.wide (nF - 1) P l f tmps assign body w' fun e w'' => ∃ v, e = .returned v ∧ K v w''
 | _ => False
def ze6 (nF : Nat) (P : Program) (o : Oper) (a : Act) (w : World) (K : Value → World → Prop) : Prop := zf0 nF P K ((execOp a.eval o).run P w)
theorem zdt {o : Oper} {a : Act} {w : World} {K K' : Value → World → Prop} (h : ∀ v w', K v w' → K' v w') (hh : ze6 nF P o a w K) : ze6 nF P o a w K' := by
 unfold ze6 at *
 generalize (execOp a.eval o).run P w = r at *
 cases r with
 | ok n w' =>
  cases n <;> simp only [zf0] at hh ⊢
  case value v => exact h _ _ hh
  case skip => exact h _ _ hh
  case enter f args => exact Calls.mono hh fun e w'' ⟨v, he, hk⟩ => ⟨v, he, h _ _ hk⟩
  case round l f tmps assign body => exact RoundIn.mono hh fun e w'' ⟨v, he, hk⟩ => ⟨v, he, h _ _ hk⟩
 | halt x w' => simp only [zf0] at hh
theorem zml {o : Oper} {a : Act} {w : World} {K : Value → World → Prop} (hh : ze6 nF P o a w K) : ∃ v w', K v w' := by
 unfold ze6 at *
 generalize (execOp a.eval o).run P w = r at *
 cases r with
 | ok n w' =>
  cases n <;> simp only [zf0] at hh
  case value v => exact ⟨_, _, hh⟩
  case skip => exact ⟨_, _, hh⟩
  case enter f args => obtain ⟨e, w'', _, ⟨v, _, hk⟩, _⟩ := hh []; exact ⟨v, w'', hk⟩
  case round l f tmps assign body => obtain ⟨e, w'', ⟨v, _, hk⟩, _⟩ := hh.2 default [] (room_wide _); exact ⟨v, w'', hk⟩
 | halt x w' => simp only [zf0] at hh
theorem zqo {o : Oper} {a : Act} {w : World} {K : Value → World → Prop} {K' : Act → World → Prop} (h : ∀ v w', K v w' → K' (a.put o.dst v) w') (hh : ze6 nF P o a w K) : o.wpIn Fence.wide nF P a w K' Q := by
 unfold ze6 at hh
 unfold Oper.wpIn
 refine ⟨fun _ _ => trivial, ?_⟩
 rw [show Fence.wide.round = none from rfl, Oper.semAt_none]
 generalize (execOp a.eval o).run P w = r at *
 cases r with
 | ok n w' =>
  cases n <;> simp only [zf0] at hh <;> simp only [Oper.uponIn]
  case value v => exact h _ _ hh
  case skip => exact h _ _ hh
  case enter f args => exact ⟨fun e => (by cases e), callsIn_wide.2 (Calls.mono hh fun e w'' ⟨v, he, hk⟩ => by subst he; exact h _ _ hk)⟩
  case round l f tmps assign body => exact ⟨fun e => (by cases e), RoundIn.mono hh fun e w'' ⟨v, he, hk⟩ => by subst he; exact h _ _ hk⟩
 | halt x w' => simp only [zf0] at hh
def zhe (nF : Nat) (L1 L2 : World → World → Prop) (S1 : List Nat) (P : Program) (ops : Array Oper) (E : List Nat) (W : World) (i : Nat) (K : Act → World → List (Nat × World) → Prop) (a : Act) (w : World) (σ : List (Nat × World)) : Prop :=
 match ops[i]? with
 | none => K a w σ
 | some o =>
  if Region.wanted o (yielded ops a.tmps) = true then
   (if E.contains i = true then ze6 nF P o a w (fun v w' => relE L1 L2 ops S1 o w w' ∧ K (a.put o.dst v) w' ((i, w') :: σ)) else ∃ v, (∀ w', cls2 L1 L2 S1 W σ i o w' → zc5 P o a w' v) ∧ K (a.put o.dst v) w σ)
  else K (a.put o.dst undef) w σ
theorem z3k (T : Two L1 L2) {listed : Array Bool} {i : Nat} {K K' : Act → World → List (Nat × World) → Prop} {a : Act} {w : World} {σ : List (Nat × World)} (hi : Inv2 L1 L2 ops S1 W listed σ w) (hr : i ∈ Region.ready .any ops listed) (h : ∀ a' w' σ', Inv2 L1 L2 ops S1 W (listed.setIfInBounds i true) σ' w' → K a' w' σ' → K' a' w' σ') (hh : zhe nF L1 L2 S1 P ops E W i K a w σ) : zhe nF L1 L2 S1 P ops E W i K' a w σ := by
 unfold zhe at *
 split
 ·
  exact h _ _ _ (hi.step hr) (by simpa [*] using hh)
 ·
  rename_i o ho
  simp only [ho] at hh
  split
  ·
   rename_i hw
   rw [if_pos hw] at hh
   split
   ·
    rename_i he
    rw [if_pos he] at hh
    exact zdt (fun v w' ⟨hl, hk⟩ => ⟨hl, h _ _ _ (hi.cons T ho hr hl) hk⟩) hh
   ·
    rename_i he
    rw [if_neg he] at hh
    obtain ⟨v, h1, h2⟩ := hh
    exact ⟨v, h1, h _ _ _ (hi.step hr) h2⟩
  ·
   rename_i hw
   rw [if_neg hw] at hh
   exact h _ _ _ (hi.step hr) hh
def zll (nF : Nat) (L1 L2 : World → World → Prop) (S1 : List Nat) (P : Program) (ops : Array Oper) (E : List Nat) (W : World) (Q : Exit → Act → World → Prop) : Nat → Array Bool → Act → World → List (Nat × World) → Prop
 | 0, listed, a, w, _ => Region.ready .any ops listed = [] ∧ Q .normal a w
 | fuel + 1, listed, a, w, σ =>
  (Region.ready .any ops listed = [] → Q .normal a w) ∧
  ∀ i ∈ Region.ready .any ops listed, zhe nF L1 L2 S1 P ops E W i (fun a' w' σ' => zll nF L1 L2 S1 P ops E W Q fuel (listed.setIfInBounds i true) a' w' σ') a w σ
theorem zd2 (T : Two L1 L2) : ∀ (fuel : Nat) (listed : Array Bool) (a : Act) (w : World) (σ : List (Nat × World)), Inv2 L1 L2 ops S1 W listed σ w → zll nF L1 L2 S1 P ops E W Q fuel listed a w σ → wpAnyIn Fence.wide nF P .any ops Q fuel listed a w
 | 0, _, _, _, _, _, h => h
 | fuel + 1, listed, a, w, σ, hi, h => ⟨h.1, fun i hm => by
  have := h.2 i hm
  unfold zhe at this
  unfold wpOpIn
  split
  ·
   rename_i ho
   simp only [ho] at this
   exact zd2 T fuel _ _ _ _ (hi.step hm) this
  ·
   rename_i o ho
   simp only [ho] at this
   split
   ·
    rename_i hw
    rw [if_pos hw] at this
    split at this
    ·
     exact (zqo (fun v w' ⟨hl, hk⟩ => zd2 T fuel _ _ _ _ (hi.cons T ho hm hl) hk) this)
    ·
     obtain ⟨v, h1, h2⟩ := this
     refine (zqo (K := fun u w' => u = v ∧ w' = w) (fun u w' ⟨e1, e2⟩ => by subst e1 e2; exact zd2 T fuel _ _ _ _ (hi.step hm) h2) ?_)
     have hv := h1 w (hi.cls hm o)
     unfold zc5 at hv
     unfold ze6
     rcases hv with e1 | ⟨e1, e2⟩
     ·
      rw [e1]; exact ⟨rfl, rfl⟩
     ·
      rw [e1, e2]; exact ⟨rfl, rfl⟩
   ·
    rename_i hw
    rw [if_neg hw] at this
    exact ⟨fun _ _ => trivial, zd2 T fuel _ _ _ _ (hi.step hm) this⟩⟩
theorem YX2.xOpI {i : Nat} {oi : Oper} {v : Value} {a : Act} {w : World} {σ : List (Nat × World)} (ho : ops[i]? = some oi) (hE : E.contains i = false ∨ Region.wanted oi (yielded ops a.tmps) = false) (h : YX2 L1 L2 S1 P ops W i oi v a σ) {K : Act → World → List (Nat × World) → Prop} (hk : K (a.put oi.dst v) w σ) : zhe nF L1 L2 S1 P ops E W i K a w σ := by
 unfold zhe
 simp only [ho]
 rcases h with ⟨hw, h⟩ | ⟨hw, rfl⟩
 ·
  rw [if_pos hw]
  rcases hE with hE | hE
  ·
   rw [if_neg (by rw [hE]; exact Bool.false_ne_true)]; exact ⟨v, h, hk⟩
  ·
   rw [hw] at hE; cases hE
 ·
  rw [if_neg (by rw [hw]; exact Bool.false_ne_true)]; exact hk
theorem z8u {i j : Nat} {oi oj : Oper} {v : Value} (hj : ops[j]? = some oj) (hap : oi.apart ops oj = true)
  (hsi : ∀ cs b, oi.op ≠ .select cs b) (hsj : ∀ cs b, oj.op ≠ .select cs b) {K : Act → World → List (Nat × World) → Prop} {a : Act} {w : World} {σ : List (Nat × World)}
  (hy : YX2 L1 L2 S1 P ops W i oi v a σ) (h : zhe nF L1 L2 S1 P ops E W j K (a.put oi.dst v) w σ) :
  zhe nF L1 L2 S1 P ops E W j (fun a' w' σ' => YX2 L1 L2 S1 P ops W i oi v a' σ' ∧ K (a'.put oi.dst v) w' σ') a w σ := by
 obtain ⟨h1, h2, h3⟩ := Oper.apart_spec hap
 have keep : ∀ (u : Value) (σ' : List (Nat × World)), (∀ w', cls2 L1 L2 S1 W σ' i oi w' → cls2 L1 L2 S1 W σ i oi w') → YX2 L1 L2 S1 P ops W i oi v (a.put oj.dst u) σ' := fun u σ' hs =>
  hy.of_same (execOp_put oi hsi a oj.dst u h3) (wanted_put oi a oj.dst u h3) hs
 unfold zhe at *
 simp only [hj] at *
 rw [wanted_put oj a oi.dst v h1] at h
 split
 ·
  rename_i hw
  rw [if_pos hw] at h
  split
  ·
   rename_i he
   rw [if_pos he] at h
   unfold ze6 at h ⊢
   rw [execOp_put oj hsj a oi.dst v h1] at h
   exact zdt (P := P) (o := oj) (a := a) (w := w) (fun u w' ⟨hl, hk⟩ => ⟨hl, keep u _ (fun _ => zsx), by rw [← Act.put_comm a v u h2]; exact hk⟩) h
  ·
   rename_i he
   rw [if_neg he] at h
   obtain ⟨u, hu, hn⟩ := h
   refine ⟨u, fun w' hw' => ?_, keep u _ (fun _ h => h), by rw [← Act.put_comm a v u h2]; exact hn⟩
   have := hu w' hw'
   unfold zc5 at *
   rwa [execOp_put oj hsj a oi.dst v h1] at this
 ·
  rename_i hw
  rw [if_neg hw] at h
  exact ⟨keep _ _ (fun _ h => h), by rw [← Act.put_comm a v undef h2]; exact h⟩
theorem zoi (T : Two L1 L2) {i : Nat} {oi : Oper} {v : Value} (hi : ops[i]? = some oi) (hsel : ∀ (j : Nat) (o : Oper) cs b, ops[j]? = some o → o.op ≠ .select cs b) :
  ∀ (fuel : Nat) (listed : Array Bool) (a : Act) (w : World) (σ : List (Nat × World)), Inv2 L1 L2 ops S1 W listed σ w →
   (∀ j oj, ops[j]? = some oj → j ≠ i → listed.getD j true = false → (∀ e ∈ oj.after, Region.binds .any e = true → e.on ≠ i) → oi.apart ops oj = true) →
   i ∈ Region.ready .any ops listed → (E.contains i = false ∨ Region.wanted oi (yielded ops a.tmps) = false) → YX2 L1 L2 S1 P ops W i oi v a σ →
   zll nF L1 L2 S1 P ops E W Q fuel (listed.setIfInBounds i true) (a.put oi.dst v) w σ → zll nF L1 L2 S1 P ops E W Q (fuel + 1) listed a w σ := by
 intro fuel
 induction fuel with
 | zero =>
  intro listed a w σ _ _ hr hE hy H
  refine ⟨fun h => (by rw [h] at hr; cases hr), fun j hj => ?_⟩
  by_cases hji : j = i
  ·
   subst hji; exact hy.xOpI hi hE H
  ·
   have := ready_mono hj hji
   rw [H.1] at this
   cases this
 | succ fuel ih =>
  intro listed a w σ hv hfree hr hE hy H
  refine ⟨fun h => (by rw [h] at hr; cases hr), fun j hj => ?_⟩
  by_cases hji : j = i
  ·
   subst hji; exact hy.xOpI hi hE H
  ·
   have h1 := H.2 j (ready_mono hj hji)
   obtain ⟨hjun, oj, hoj, hall⟩ := mem_ready.1 hj
   have hnot := zfr hr hall
   have hap := hfree j oj hoj hji hjun hnot
   have h2 := z8u hoj hap (fun cs b => hsel i oi cs b hi) (fun cs b => hsel j oj cs b hoj) hy h1
   have hfree' : ∀ k ok, ops[k]? = some ok → k ≠ i → (listed.setIfInBounds j true).getD k true = false →
     (∀ e ∈ ok.after, Region.binds .any e = true → e.on ≠ i) → oi.apart ops ok = true := fun k ok hk hki hun hno => by
    refine hfree k ok hk hki ?_ hno
    by_cases hjk : j = k
    ·
     subst hjk; exact hjun
    ·
     rw [getD_set_ne true hjk] at hun; exact hun
   have hkeep : ∀ u, Region.wanted oi (yielded ops (a.put oj.dst u).tmps) = Region.wanted oi (yielded ops a.tmps) := fun u => wanted_put oi a oj.dst u (Oper.apart_spec hap).2.2
   have h3 : zhe nF L1 L2 S1 P ops E W j (fun a' w' σ' => (E.contains i = false ∨ Region.wanted oi (yielded ops a'.tmps) = false) ∧ YX2 L1 L2 S1 P ops W i oi v a' σ' ∧ zll nF L1 L2 S1 P ops E W Q fuel ((listed.setIfInBounds i true).setIfInBounds j true) (a'.put oi.dst v) w' σ') a w σ := by
    unfold zhe at h2 ⊢
    simp only [hoj] at h2 ⊢
    split
    ·
     rename_i hw
     rw [if_pos hw] at h2
     split
     ·
      rename_i he
      rw [if_pos he] at h2
      exact zdt (fun u w' ⟨hl, hk⟩ => ⟨hl, by rw [hkeep u]; exact hE, hk⟩) h2
     ·
      rename_i he
      rw [if_neg he] at h2
      obtain ⟨u, hu, hk⟩ := h2
      exact ⟨u, hu, by rw [hkeep u]; exact hE, hk⟩
    ·
     rename_i hw
     rw [if_neg hw] at h2
     exact ⟨by rw [hkeep undef]; exact hE, h2⟩
   refine z3k T hv hj (fun a' w' σ' hv' h4 => ih (listed.setIfInBounds j true) a' w' σ' hv' hfree' (ready_mono hr (Ne.symm hji)) h4.1 h4.2.1 ?_) h3
   rw [Array.setIfInBounds_comm _ _ hji]
   exact h4.2.2
theorem zvb (_ : Two L1 L2) {i : Nat} {oi : Oper} (hi : ops[i]? = some oi) (hE : E.contains i = true) (hc : zdd ops E = true) (hsel : ∀ (j : Nat) (o : Oper) cs b, ops[j]? = some o → o.op ≠ .select cs b) :
  ∀ (fuel : Nat) (listed : Array Bool) (a : Act) (w : World) (σ : List (Nat × World)), Inv2 L1 L2 ops S1 W listed σ w → DC ops listed →
   (∀ j oj, ops[j]? = some oj → j ≠ i → listed.getD j true = false → (∀ e ∈ oj.after, Region.binds .any e = true → e.on ≠ i) → oi.apart ops oj = true) →
   i ∈ Region.ready .any ops listed → Region.wanted oi (yielded ops a.tmps) = true →
   ze6 nF P oi a w (fun v w' => relE L1 L2 ops S1 oi w w' ∧ zll nF L1 L2 S1 P ops E W Q fuel (listed.setIfInBounds i true) (a.put oi.dst v) w' ((i, w') :: σ)) → zll nF L1 L2 S1 P ops E W Q (fuel + 1) listed a w σ := by
 intro fuel
 induction fuel with
 | zero =>
  intro listed a w σ _ _ _ hr hw H
  refine ⟨fun h => (by rw [h] at hr; cases hr), fun j hj => ?_⟩
  by_cases hji : j = i
  ·
   subst hji; unfold zhe; simp only [hi]; rw [if_pos hw, if_pos hE]; exact H
  ·
   obtain ⟨v, w', _, h0⟩ := zml H
   have := ready_mono hj hji
   rw [h0.1] at this
   cases this
 | succ fuel ih =>
  intro listed a w σ hv hdc hfree hr hw H
  refine ⟨fun h => (by rw [h] at hr; cases hr), fun j hj => ?_⟩
  by_cases hji : j = i
  ·
   subst hji; unfold zhe; simp only [hi]; rw [if_pos hw, if_pos hE]; exact H
  ·
   obtain ⟨hjun, oj, hoj, hall⟩ := mem_ready.1 hj
   have hnot := zfr hr hall
   have hap := hfree j oj hoj hji hjun hnot
   obtain ⟨a1, a2, a3⟩ := Oper.apart_spec hap
   have hsi := fun cs b => hsel i oi cs b hi
   have hsj := fun cs b => hsel j oj cs b hoj
   have hjE : ¬ E.contains j = true := fun h => hji (zit hdc E hc j i (by simpa using h) (by simpa using hE) hj hr)
   have hnw : zcx oj i = false := by
    cases h : zcx oj i with
    | false => rfl
    | true => obtain ⟨e, he, hb, hon⟩ := zda h; exact absurd hon (hnot e he hb)
   have hfree' : ∀ k ok, ops[k]? = some ok → k ≠ i → (listed.setIfInBounds j true).getD k true = false →
     (∀ e ∈ ok.after, Region.binds .any e = true → e.on ≠ i) → oi.apart ops ok = true := fun k ok hk hki hun hno => by
    refine hfree k ok hk hki ?_ hno
    by_cases hjk : j = k
    ·
     subst hjk; exact hjun
    ·
     rw [getD_set_ne true hjk] at hun; exact hun
   have hr' := ready_mono hr (Ne.symm hji)
   have next : ∀ u, (∀ v w', zll nF L1 L2 S1 P ops E W Q (fuel + 1) (listed.setIfInBounds i true) (a.put oi.dst v) w' ((i, w') :: σ) → zll nF L1 L2 S1 P ops E W Q fuel ((listed.setIfInBounds i true).setIfInBounds j true) ((a.put oi.dst v).put oj.dst u) w' ((i, w') :: σ)) →
     zll nF L1 L2 S1 P ops E W Q (fuel + 1) (listed.setIfInBounds j true) (a.put oj.dst u) w σ := fun u hn => by
    refine ih (listed.setIfInBounds j true) (a.put oj.dst u) w σ (hv.step hj) (hdc.add hj) hfree' hr' (by rw [wanted_put oi a oj.dst u a3]; exact hw) ?_
    have H2 := zdt (fun v w' ⟨hl, hk⟩ => (⟨hl, hn v w' hk⟩ : relE L1 L2 ops S1 oi w w' ∧ _)) H
    unfold ze6 at H2 ⊢
    rw [execOp_put oi hsi a oj.dst u a3]
    refine zdt (P := P) (o := oi) (a := a) (w := w) (fun v w' ⟨hl, hk⟩ => ⟨hl, ?_⟩) H2
    rw [Array.setIfInBounds_comm _ _ hji, ← Act.put_comm a v u a2]
    exact hk
   obtain ⟨v0, w0, hl0, H0⟩ := zml H
   have h1 := H0.2 j (ready_mono hj hji)
   unfold zhe at h1 ⊢
   simp only [hoj] at h1 ⊢
   rw [wanted_put oj a oi.dst v0 a1] at h1
   split
   ·
    rename_i hwj
    rw [if_pos hwj, if_neg hjE] at h1
    obtain ⟨c, hc1, hc2⟩ := h1
    have hval : ∀ w', cls2 L1 L2 S1 W σ j oj w' → zc5 P oj a w' c := fun w' hw' => by
     have := hc1 w' (zeb hnw hw')
     unfold zc5 at *
     rwa [execOp_put oj hsj a oi.dst v0 a1] at this
    refine ⟨c, hval, next c fun v w' hk => ?_⟩
    have h2 := hk.2 j (ready_mono hj hji)
    unfold zhe at h2
    simp only [hoj] at h2
    rw [wanted_put oj a oi.dst v a1, if_pos hwj, if_neg hjE] at h2
    obtain ⟨c', hc1', hc2'⟩ := h2
    have e : c' = c := by
     refine zog ?_ (hval w (hv.cls hj oj))
     have := hc1' w (zeb hnw (hv.cls hj oj))
     unfold zc5 at *
     rwa [execOp_put oj hsj a oi.dst v a1] at this
    subst e
    exact hc2'
   ·
    rename_i hwj
    refine next undef fun v w' hk => ?_
    have h2 := hk.2 j (ready_mono hj hji)
    unfold zhe at h2
    simp only [hoj] at h2
    rw [wanted_put oj a oi.dst v a1, if_neg hwj] at h2
    exact h2
def ze2 (nF : Nat) (L1 L2 : World → World → Prop) (S1 : List Nat) (P : Program) (ops : Array Oper) (E : List Nat) (W : World) (Q : Exit → Act → World → Prop) : Nat → List Oper → Act → World → List (Nat × World) → Prop
 | _, [], a, w, _ => Q .normal a w
 | k, o :: rest, a, w, σ =>
  if Region.wanted o (yielded ops a.tmps) = true then
   (if E.contains k = true then ze6 nF P o a w (fun v w' => relE L1 L2 ops S1 o w w' ∧ ze2 nF L1 L2 S1 P ops E W Q (k + 1) rest (a.put o.dst v) w' ((k, w') :: σ)) else ∃ v, (∀ w', cls2 L1 L2 S1 W σ k o w' → zc5 P o a w' v) ∧ ze2 nF L1 L2 S1 P ops E W Q (k + 1) rest (a.put o.dst v) w σ)
  else ze2 nF L1 L2 S1 P ops E W Q (k + 1) rest (a.put o.dst undef) w σ
theorem zvc (T : Two L1 L2) (hs : Region.noSelect ops = true) (hc : zdd ops E = true) : ∀ (l : List Oper) (k : Nat) (listed : Array Bool) (a : Act) (w : World) (σ : List (Nat × World)), Inv2 L1 L2 ops S1 W listed σ w → DC ops listed → (∀ j, l[j]? = ops[k + j]?) →
  Region.lexFrom .any ops l.length k listed = true → ze2 nF L1 L2 S1 P ops E W Q k l a w σ → zll nF L1 L2 S1 P ops E W Q l.length listed a w σ
 | [], _, _, _, _, _, _, _, _, hB, h => ⟨by simpa [Region.lexFrom] using hB, h⟩
 | o :: l, k, listed, a, w, σ, hv, hd, hl, hB, h => by
  have h0 : ops[k]? = some o := by simpa using (hl 0).symm
  simp only [List.length_cons, Region.lexFrom, Bool.and_eq_true] at hB
  obtain ⟨⟨hr, hf⟩, hB'⟩ := hB
  have hr' : k ∈ Region.ready .any ops listed := by simpa using hr
  have next : ∀ a' w' σ', Inv2 L1 L2 ops S1 W (listed.setIfInBounds k true) σ' w' → ze2 nF L1 L2 S1 P ops E W Q (k + 1) l a' w' σ' → zll nF L1 L2 S1 P ops E W Q l.length (listed.setIfInBounds k true) a' w' σ' := fun a' w' σ' hv' h' =>
   zvc T hs hc l (k + 1) _ a' w' σ' hv' (hd.add hr') (fun j => by have := hl (j + 1); simpa [Nat.add_assoc, Nat.add_comm 1 j] using this) hB' h'
  unfold ze2 at h
  split at h
  ·
   rename_i hw
   split at h
   ·
    rename_i hE
    exact zvb T h0 hE hc (Region.noSelect_spec hs) l.length listed a w σ hv hd (Region.free_spec h0 hf) hr' hw (zdt (fun v w' ⟨hl', hk⟩ => ⟨hl', next _ _ _ (hv.cons T h0 hr' hl') hk⟩) h)
   ·
    rename_i hE
    obtain ⟨v, h1, h2⟩ := h
    exact zoi T h0 (Region.noSelect_spec hs) l.length listed a w σ hv (Region.free_spec h0 hf) hr' (.inl (by simpa using hE)) (.inl ⟨hw, h1⟩) (next _ _ _ (hv.step hr') h2)
  ·
   rename_i hw
   have hw' : Region.wanted o (yielded ops a.tmps) = false := by simpa using hw
   exact zoi T h0 (Region.noSelect_spec hs) l.length listed a w σ hv (Region.free_spec h0 hf) hr' (.inr hw') (.inr ⟨hw', rfl⟩) (next _ _ _ (hv.step hr') h)
theorem twoI : Two Lq (fun _ _ => True) := { r1 := Lq.refl, r2 := fun _ => trivial, t1 := fun h k => h.trans k, t2 := fun _ _ => trivial, le := fun _ => trivial }
theorem zd9 (S1 E : List Nat) {id : Nat} {a : Act} {w : World} {l : List Oper} (hm : P.follows .mixedOrders = true) (hB : Region.lexB .any l.toArray = true) (hc : zdd l.toArray E = true)
  (h : ze2 nF Lq (fun _ _ => True) S1 P l.toArray E w.drew Q 0 l a w.drew []) : (Code.region id l.toArray true).wpIn Fence.wide nF P Q a w := by
 simp only [Region.lexB, Bool.and_eq_true] at hB
 refine wpIn_region_any hm ?_
 have hd : DC l.toArray (Array.replicate l.toArray.size false) := fun k o _ hl => by
  rw [Array.getD_eq_getD_getElem?, Array.getElem?_replicate] at hl
  split at hl <;> simp at hl
 have hI : Inv2 Lq (fun _ _ => True) l.toArray S1 w.drew (Array.replicate l.toArray.size false) [] w.drew := ⟨hd, ⟨trivial, by simp⟩, fun _ => ⟨Lq.refl _, by simp⟩⟩
 refine zd2 twoI (S1 := S1) (E := E) (W := w.drew) _ _ _ _ [] hI ?_
 have := zvc (P := P) twoI (S1 := S1) (W := w.drew) (Q := Q) hB.1 hc l 0 (Array.replicate l.toArray.size false) a w.drew [] hI hd (by simp) (by simpa using hB.2) h
 simpa using this
theorem ycg {o : Oper} {w w' : World} (ho : zjt ops S1 o = true) : relE Lq (fun _ _ => True) ops S1 o w w' := by
 unfold relE
 rw [if_pos ho]
 trivial
structure AnyW where
 w : World
instance : Inhabited AnyW := ⟨⟨default⟩⟩
theorem zjw {k : Nat} {a : Act} {w : World} {σ : List (Nat × World)} (h : Q .normal a w) : ze2 nF L1 L2 S1 P ops E W Q k [] a w σ := h
theorem zk7 {k : Nat} {o : Oper} {rest : List Oper} {a : Act} {w : World} {σ : List (Nat × World)} (hE : E.contains k = false) (hp : zcw o.op = true) (C : World → Prop) (h0 : ∀ w', cls2 L1 L2 S1 W σ k o w' → C w')
  (h : wpQuiet P ops C (fun a' => ze2 nF L1 L2 S1 P ops E W Q (k + 1) rest a' w σ) [o] a) : ze2 nF L1 L2 S1 P ops E W Q k (o :: rest) a w σ := by
 unfold ze2
 unfold wpQuiet at h
 split
 ·
  rename_i hw
  rw [if_pos hw] at h
  rw [if_neg (by rw [hE]; exact Bool.false_ne_true)]
  obtain ⟨v, h1, h2⟩ := h
  refine ⟨v, fun w' hw' => ?_, h2⟩
  have := h1 w' (h0 w' hw')
  unfold Oper.quietAt at this
  unfold zc5
  have hne := fun f args w'' => zdx (P := P) hp (ρ := a.eval) (w := w') (w' := w'') (f := f) (args := args)
  generalize (execOp a.eval o).run P w' = r at *
  cases r with
  | ok n w1 =>
   cases n <;> simp only [Oper.quietUpon] at this
   case value u => obtain ⟨rfl, rfl⟩ := this; exact .inl rfl
   case skip => obtain ⟨rfl, rfl⟩ := this; exact .inr ⟨rfl, rfl⟩
   case enter f args => exact absurd rfl (hne f args w1)
  | halt x w1 => simp only [Oper.quietUpon] at this
 ·
  rename_i hw
  rw [if_neg hw] at h
  exact h
theorem zhd {k : Nat} {o : Oper} {rest : List Oper} {a : Act} {w : World} {σ : List (Nat × World)} (hE : E.contains k = false) (hS : S1.contains k = true) (hp : zcw o.op = true)
  (h : wpQuiet P ops (fun w' => ∃ p : Wd W, w' = p.w) (fun a' => ze2 nF Lq (fun _ _ => True) S1 P ops E W Q (k + 1) rest a' w σ) [o] a) : ze2 nF Lq (fun _ _ => True) S1 P ops E W Q k (o :: rest) a w σ :=
 zk7 hE hp _ (fun w' hw' => ⟨⟨w', by have := hw'.1; unfold relC at this; rw [if_pos hS] at this; exact this⟩, rfl⟩) h
theorem zfg {k : Nat} {o : Oper} {rest : List Oper} {a : Act} {w : World} {σ : List (Nat × World)} (hE : E.contains k = false) (hp : zcw o.op = true)
  (h : wpQuiet P ops (fun w' => ∃ p : AnyW, w' = p.w) (fun a' => ze2 nF L1 L2 S1 P ops E W Q (k + 1) rest a' w σ) [o] a) : ze2 nF L1 L2 S1 P ops E W Q k (o :: rest) a w σ :=
 zk7 hE hp _ (fun w' _ => ⟨⟨w'⟩, rfl⟩) h
theorem zks {k : Nat} {o : Oper} {rest : List Oper} {a : Act} {w : World} {σ : List (Nat × World)} (hw : Region.wanted o (yielded ops a.tmps) = false) (h : ze2 nF L1 L2 S1 P ops E W Q (k + 1) rest (a.put o.dst undef) w σ) : ze2 nF L1 L2 S1 P ops E W Q k (o :: rest) a w σ := by
 unfold ze2
 rw [if_neg (by rw [hw]; exact Bool.false_ne_true)]
 exact h
theorem zx0 {k : Nat} {o : Oper} {rest : List Oper} {a : Act} {w : World} {σ : List (Nat × World)} (hE : E.contains k = true) (hw : Region.wanted o (yielded ops a.tmps) = true) {c : Operand} {xs : Array Operand} {ts : Array TypeId} {lo : Nat}
  (ho : o.op = .call { callee := .value c, args := xs, argTypes := ts }) (hc : a.eval c = .func (.yield lo) #[] #[]) (hS : zjt ops S1 o = true)
  (args : Array Value) (hargs : xs.toList.map a.eval = args.toList) (h : YieldAt Fence.wide (nF - 1) P lo args w fun e w' => ∃ v, e = .returned v ∧ ze2 nF Lq (fun _ _ => True) S1 P ops E W Q (k + 1) rest (a.put o.dst v) w' ((k, w') :: σ)) : ze2 nF Lq (fun _ _ => True) S1 P ops E W Q k (o :: rest) a w σ := by
 unfold ze2
 rw [if_pos hw, if_pos hE]
 unfold ze6
 have hargs : xs.map a.eval = args := Array.toList_inj.1 (by rw [Array.toList_map]; exact hargs)
 subst hargs
 obtain ⟨fn, tmps, assign, body, hy, hr⟩ := h
 have : (execOp a.eval o).run P w = (Instr.yield lo (xs.map a.eval)).run P w := by
  unfold execOp
  simp [ho, hc, resolve, invoke, Deferred.ofValue]
 rw [this, hy]
 exact RoundIn.mono hr fun e w' ⟨v, he, hk⟩ => ⟨v, he, ycg hS, hk⟩
attribute [irreducible] ze2
end
section
open Go.Shelf
attribute [local go_sem] Oper.semAt_some
@[local go_sem ↓ high] theorem ygy {P : Program} (l : Option Nat) (ρ : Operand → Value) (o : Oper) (w : World) (h : ∀ c, o.op ≠ .defer c) : (Oper.semAt l ρ o).run P w = (execOp ρ o).run P w := by rw [Oper.semAt_eq l ρ o h]
theorem zsz (x y : Vo) (p : Option Addr) (n c : Nat) (w : World) :
  Calls Tryz.prog 151 #[.agg (vo x), .agg (vo y), .slice p n c] w fun e w' => e = .returned (.func (.func 176) #[] #[.pointer (some ⟨w.heap.size + 1, 0, none⟩), .pointer (some ⟨w.heap.size, 0, none⟩), .pointer (some ⟨w.heap.size + 1 + 1, 0, none⟩)]) ∧ w' = ((w.alloc (.cells (vo x) 29)).alloc (.cells (vo y) 29)).alloc (.cells #[.slice p n c] 25) := by
 go_enter Tryz.func151, Tryz.ntmps151
 go_wp2_with fail
 go_ret
 exact ⟨rfl, rfl⟩
theorem zgj : ∀ args w, (callFunc 151 args).run Tryz.prog w = .ok (.enter 151 args) w := za7 Tryz.func151 (by kernel_rfl) (by kernel_rfl)
def nwB (v o : Vt) (k : Nat) : Bool := (lat v.l k).has && decide (lat v.l k ≠ lat o.l k)
def nwT (v o : Vt) (n : Nat) : List Nat := (List.range n).filter (nwB v o)
theorem zrr {v o : Vt} {n : Nat} (h : nwB v o n = true) : nwT v o (n + 1) = nwT v o n ++ [n] := by unfold nwT; rw [List.range_succ, List.filter_append]; simp [h]
theorem z6p {v o : Vt} {n : Nat} (h : nwB v o n = false) : nwT v o (n + 1) = nwT v o n := by unfold nwT; rw [List.range_succ, List.filter_append]; simp [h]
theorem z6q (v o : Vt) (n : Nat) : ∀ d, nwT v o n <+: nwT v o (n + d)
 | 0 => List.prefix_refl _
 | d + 1 => by
  have ih := z6q v o n d
  cases h : nwB v o (n + d)
  ·
   rw [show n + (d + 1) = n + d + 1 from rfl, z6p h]; exact ih
  ·
   rw [show n + (d + 1) = n + d + 1 from rfl, zrr h]; exact ih.trans (List.prefix_append _ _)
theorem z6o {v o : Vt} {n m : Nat} (h : n ≤ m) : nwT v o n <+: nwT v o m := by
 have := z6q v o n (m - n)
 rwa [show n + (m - n) = m by omega] at this
theorem ygk (v o : Vt) (n : Nat) : (nwT v o n).length ≤ n := by
 unfold nwT
 have := List.length_filter_le (nwB v o) (List.range n)
 rwa [List.length_range] at this
theorem ygb {v o : Vt} {n k : Nat} : k ∈ nwT v o n ↔ k < n ∧ nwB v o k = true := by unfold nwT; rw [List.mem_filter, List.mem_range]
theorem zfq {B b o : Nat} {W W' : World} {cs : List Value} (g : Below B W W') (hb : b < B) (h : W.rangeAt b o cs) : W'.rangeAt b o cs := fun j v hv => (g.cell (p := ⟨b, o + j, none⟩) hb).trans (h j v hv)
theorem z1m (d s0 bv bb bl b1 o1 c1 b2 o2 c2 b3 o3 c3 m : Nat) (v o : Vt) (bal : List UInt64) (w : World) (hs0 : s0 ≤ w.heap.size) (hm : m ≤ 1000) (hv : v.l.length = m) (ho : o.l.length = m) (hb : bal.length = m) (q1 : bv < s0) (q2 : bb < s0) (q3 : bl < s0) (q4 : b1 < s0) (q5 : b2 < s0) (q6 : b3 < s0)
  (t0 : w.heap[bv]? = some (.cells (vo ⟨⟨some ⟨b1, o1, none⟩, m, c1⟩, v.out⟩) 29 (0, 0))) (t1 : w.heap[bb]? = some (.cells (vo ⟨⟨some ⟨b2, o2, none⟩, m, c2⟩, o.out⟩) 29 (0, 0))) (t2 : w.heap[bl]? = some (.cells #[.slice (some ⟨b3, o3, none⟩) m c3] 25 (0, 0)))
  (x1 : w.rangeAt b1 o1 (zaq Elt v.l)) (x2 : w.rangeAt b2 o2 (zaq Elt o.l)) (x3 : w.rangeAt b3 o3 (zaq Enum bal)) :
  SeqStopsK Fence.wide d Tryz.prog 176 #[.pointer (some ⟨bv, 0, none⟩), .pointer (some ⟨bb, 0, none⟩), .pointer (some ⟨bl, 0, none⟩)] (fun x : { x : Nat // x ∈ nwT v o m } => #[Value.agg (lt (lat v.l x.1)), Value.int .u64 (fn bal x.1 : Int)]) (Below s0) (fun ys => ys.map Subtype.val = nwT v o m) (fun pre => pre.map Subtype.val <+: nwT v o m) (nwT v o m).length w := by
 intro lo J Jx W hW hAJ _ hY hJ0
 have HT : Hid (∀ W', Below s0 w W' → W'.heap[bv]? = some (.cells (vo ⟨⟨some ⟨b1, o1, none⟩, m, c1⟩, v.out⟩) 29 (0, 0)) ∧ W'.heap[bb]? = some (.cells (vo ⟨⟨some ⟨b2, o2, none⟩, m, c2⟩, o.out⟩) 29 (0, 0)) ∧ W'.heap[bl]? = some (.cells #[.slice (some ⟨b3, o3, none⟩) m c3] 25 (0, 0))) := fun W' g => ⟨(g.block _ q1).trans t0, (g.block _ q2).trans t1, (g.block _ q3).trans t2⟩
 have HX : Hid (∀ W', Below s0 w W' → W'.rangeAt b1 o1 (zaq Elt v.l) ∧ W'.rangeAt b2 o2 (zaq Elt o.l) ∧ W'.rangeAt b3 o3 (zaq Enum bal)) := fun W' g => ⟨zfq g q4 x1, zfq g q5 x2, zfq g q6 x3⟩
 have HG0 : Hid (Below s0 w W) := hW.mono hs0
 have HS : Hid (∀ W', Below s0 w W' → s0 ≤ W'.heap.size) := fun W' g => Nat.le_trans hs0 g.size
 have HAJ : Hid (∀ pre W1 W', J pre W1 → Below W1.heap.size W1 W' → J pre W') := fun pre W1 W' hj g => hAJ pre W1 W' none hj (zbd g) (fun r e => by cases e)
 have HY := Lib.hid hY
 have HJ0 := Lib.hid hJ0
 have HM := Lib.hid hm
 have HL := Lib.hid (show v.l.length = m ∧ o.l.length = m ∧ bal.length = m from ⟨hv, ho, hb⟩)
 clear hY hJ0 hW hAJ t0 t1 t2 x1 x2 x3 hs0 hm hv ho hb q1 q2 q3 q4 q5 q6
 have hmix : Tryz.prog.follows .mixedOrders = true := by kernel_rfl
 obtain ⟨z0, _⟩ := zbo (HT.out _ HG0.out).1
 dsimp only at z0
 rw [za0] at z0
 refine callsIn_of_wp Tryz.func176 rfl trivial ?_ rfl
 simp only [Tryz.ntmps176, List.size_toArray, List.length_cons, List.length_nil, Nat.reduceAdd, Nat.reduceSub, Array.replicate_succ, Array.replicate_zero, List.push_toArray, List.append_toArray, List.nil_append, List.cons_append]
 gi_wp2
 clear z0
 gi_loopw [10] (fun u wr => ∃ (pre : List { x : Nat // x ∈ nwT v o m }) (j : Nat), u = .int .i64 (j : Int) ∧ j ≤ m ∧ pre.map Subtype.val = nwT v o j ∧ Below s0 w wr ∧ J pre wr) (fun u _ => m - (intOf u).toNat)
 case atStart => exact ⟨[], 0, rfl, Nat.zero_le _, rfl, HG0.out, HJ0.out⟩
 case round =>
  obtain ⟨pre, j, rfl, hj, hpre, hg, hjj⟩ := hrel
  have HG := Lib.hid hg
  have HJ := Lib.hid hjj
  have HE := Lib.hid hpre
  clear hg hjj hpre
  by_cases hlt : j < m
  ·
   have d0 : decide ((j : Int) < (m : Int)) = true := decide_eq_true (by omega)
   have d0' : decide (j < m) = true := decide_eq_true hlt
   have i0 : (0 : Int) ≤ (j : Int) := by omega
   have i1 : (j : Int) < (m : Int) := by omega
   have u1 : (j : Int) + 1 < 10000 := by have := HM.out; omega
   have HLT := Lib.hid hlt
   obtain ⟨hx1, hx2, hx3⟩ := HX.out _ HG.out
   have y1 := znf hx1 (i := j) (by have := HL.out.1; omega)
   have y2 := znf hx2 (i := j) (by have := HL.out.2.1; omega)
   have y3 := zbt hx3 (i := j) (by have := HL.out.2.2; omega)
   obtain ⟨k0, k1, k2⟩ := HT.out _ HG.out
   have HN : Hid (nwB v o j = ((lat v.l j).has && decide (lat v.l j ≠ lat o.l j))) := rfl
   have HYj : Hid (∀ (hin : j ∈ nwT v o m) W1, J pre W1 → pre.length < (nwT v o m).length → YieldAt Fence.wide (d - 1) Tryz.prog lo #[Value.agg (lt (lat v.l j)), Value.int .u64 (fn bal j : Int)] W1 fun e W' => (e = .returned (.bool true) ∧ J (pre ++ [⟨j, hin⟩]) W' ∧ Below s0 W1 W') ∨ (e = .returned (.bool false) ∧ Jx (pre ++ [⟨j, hin⟩]) W')) := fun hin W1 h1 h2 => HY.out pre ⟨j, hin⟩ W1 h1 h2
   generalize lat v.l j = X at *
   generalize lat o.l j = Y at *
   generalize fn bal j = B at *
   obtain ⟨H, hH⟩ : ∃ H, H = X.has := ⟨_, rfl⟩
   obtain ⟨df, hdf⟩ : ∃ df, df = decide (X = Y) := ⟨_, rfl⟩
   have HN2 : Hid (nwB v o j = (H && !df)) := by show nwB v o j = _; rw [HN.out, hH, hdf, decide_not]
   have HLP : Hid (nwB v o j = true → ∃ hin : j ∈ nwT v o m, pre.length < (nwT v o m).length ∧ nwT v o (j + 1) = nwT v o j ++ [j]) := fun e => by
    refine ⟨ygb.2 ⟨hlt, e⟩, ?_, zrr e⟩
    have h1 := (z6o (v := v) (o := o) (show j + 1 ≤ m from hlt)).length_le
    have h2 := congrArg List.length HE.out
    rw [List.length_map] at h2
    rw [zrr e, List.length_append, ← h2] at h1
    exact h1
   have HPF : Hid (nwB v o j = true → ∀ hin : j ∈ nwT v o m, (pre ++ [(⟨j, hin⟩ : { x // x ∈ nwT v o m })]).map Subtype.val = nwT v o (j + 1)) := fun e hin => by
    show ((pre ++ [(⟨j, hin⟩ : { x // x ∈ nwT v o m })]).map Subtype.val) = _
    rw [zrr e, List.map_append, HE.out]; rfl
   clear hj hlt
   gi_wp2
   obtain ⟨W5, hW5⟩ : ∃ W5, W5 = wr.alloc (.cells (lt X) 115) := ⟨_, rfl⟩
   rw [← hW5]
   have hB5 : Below wr.heap.size wr W5 := by rw [hW5]; exact below1
   have n5 : W5.heap[wr.heap.size]? = some (.cells (lt X) 115 (0, 0)) := by rw [hW5]; exact heap_alloc_last wr _
   have HG5 : Hid (Below s0 w W5.drew) := HG.out.trans ((zah hB5 1).mono (HS.out _ HG.out))
   have HJ5 : Hid (J pre W5.drew) := HAJ.out _ _ _ HJ.out (zah hB5 1)
   have e0 := (zf8 n5).1
   rw [← hH] at e0
   have e1 := zar n5 (zrh X)
   have e2 := (zbo (zac hB5 k1)).1
   dsimp only at e2
   rw [za0] at e2
   have e3 := keep hB5 y2
   have e4 := (zam (zac hB5 k2)).1
   have e5 : W5.cell? ⟨b3, o3 + j, none⟩ = some (.int .u64 (B : Int)) := (hB5.cell (p := ⟨b3, o3 + j, none⟩) (block_lt_of_cell y3)).trans y3
   have L0 := fun q : Wd W5.drew => zbc e0 q
   have L1 := fun q : Wd W5.drew => zbb e1 (by decide) q
   have L2 := fun q : Wd W5.drew => zbc e2 q
   have L3 := fun q : Wd W5.drew => zbb e3 (by decide) q
   have L4 := fun q : Wd W5.drew => zbc e4 q
   have L5 := fun q : Wd W5.drew => zbc e5 q
   have tD : decide (X = Y) = df := hdf.symm
   clear hW5 hB5 n5 e0 e1 e2 e3 e4 e5 y1 y2 y3 k0 k1 k2 hx1 hx2 hx3 hH hdf HN
   obtain ⟨b5, hb5⟩ : ∃ b5, b5 = wr.heap.size := ⟨_, rfl⟩
   rw [← hb5] at L0 L1 ⊢
   clear hb5
   cases H
   ·
    have HE2 : Hid (nwT v o (j + 1) = nwT v o j) := z6p (by rw [HN2.out]; rfl)
    refine zd9 [0, 1, 2, 3, 4, 5, 6, 7, 8, 9, 10, 11, 12, 13, 14, 15, 16, 17] [18] (by kernel_rfl) (by kernel_rfl) (by kernel_rfl) ?_
    repeat (first | (refine zhd rfl rfl rfl ?_; (first | go_big_quiet_step (fail) | quiet_step (fail)); refine wpQuiet_nil ?_) | refine zks rfl ?_)
    refine zfg rfl rfl ?_; (first | go_big_quiet_step (fail) | quiet_step (fail)); refine wpQuiet_nil ?_
    refine zjw ?_
    gi_wp2
    go_roundw
    case rel => exact ⟨pre, j + 1, by go_num, HLT.out, by rw [HE2.out]; exact HE.out, HG5.out, HJ5.out⟩
    case measure => simp [intOf]; have := HLT.out; omega
   ·
    cases df
    ·
     have HNT : Hid (nwB v o j = true) := by show _ = true; rw [HN2.out]; rfl
     obtain ⟨hin, hln, hup⟩ := HLP.out HNT.out
     have HP := Lib.hid (HPF.out HNT.out hin)
     have HUP := Lib.hid hup
     obtain ⟨fn, tmps, assign, body, hy, hR⟩ := HYj.out hin W5.drew HJ5.out hln
     have HRR := Lib.hid hR
     clear hR hln hup
     refine zd9 [0, 1, 2, 3, 4, 5, 6, 7, 8, 9, 10, 11, 12, 13, 14, 15, 16, 17] [18] (by kernel_rfl) (by kernel_rfl) (by kernel_rfl) ?_
     repeat (first | (refine zhd rfl rfl rfl ?_; (first | go_big_quiet_step (fail) | quiet_step (fail)); refine wpQuiet_nil ?_) | refine zks rfl ?_)
     refine zx0 rfl rfl rfl rfl (by kernel_rfl) #[.agg (lt X), .int .u64 (B : Int)] rfl ⟨fn, tmps, assign, body, hy, RoundIn.mono HRR.out ?_⟩
     rintro e W3 (⟨rfl, hJ3, hk3⟩ | ⟨rfl, hJx3⟩)
     ·
      have HG3 := Lib.hid (HG5.out.trans hk3)
      have HJ3 := Lib.hid hJ3
      clear hJ3 hk3
      refine ⟨_, rfl, ?_⟩
      simp only [Act.put, List.setIfInBounds_toArray, List.set_cons_zero, List.set_cons_succ]
      repeat (refine zfg rfl rfl ?_; (first | go_big_quiet_step (fail) | quiet_step (fail)); refine wpQuiet_nil ?_)
      refine zjw ?_
      gi_wp2
      go_roundw
      case rel => exact ⟨pre ++ [⟨j, hin⟩], j + 1, by go_num, HLT.out, HP.out, HG3.out, HJ3.out⟩
      case measure => simp [intOf]; have := HLT.out; omega
     ·
      have HJ3 := Lib.hid hJx3
      clear hJx3
      refine ⟨_, rfl, ?_⟩
      simp only [Act.put, List.setIfInBounds_toArray, List.set_cons_zero, List.set_cons_succ]
      repeat (refine zfg rfl rfl ?_; (first | go_big_quiet_step (fail) | quiet_step (fail)); refine wpQuiet_nil ?_)
      refine zjw ?_
      gi_wp2
      refine bodyPost_ret (results_none rfl _ _ _) rfl ?_
      exact ⟨⟨_, rfl⟩, .inr ⟨pre ++ [⟨j, hin⟩], by rw [HP.out]; exact z6o HLT.out, HJ3.out⟩⟩
    ·
     have HE2 : Hid (nwT v o (j + 1) = nwT v o j) := z6p (by rw [HN2.out]; rfl)
     refine zd9 [0, 1, 2, 3, 4, 5, 6, 7, 8, 9, 10, 11, 12, 13, 14, 15, 16, 17] [18] (by kernel_rfl) (by kernel_rfl) (by kernel_rfl) ?_
     repeat (first | (refine zhd rfl rfl rfl ?_; (first | go_big_quiet_step (fail) | quiet_step (fail)); refine wpQuiet_nil ?_) | refine zks rfl ?_)
     refine zfg rfl rfl ?_; (first | go_big_quiet_step (fail) | quiet_step (fail)); refine wpQuiet_nil ?_
     refine zjw ?_
     gi_wp2
     go_roundw
     case rel => exact ⟨pre, j + 1, by go_num, HLT.out, by rw [HE2.out]; exact HE.out, HG5.out, HJ5.out⟩
     case measure => simp [intOf]; have := HLT.out; omega
  ·
   obtain rfl : j = m := by omega
   clear hlt
   gi_wp2
   go_end0
   exact ⟨⟨_, rfl⟩, .inl ⟨pre, HE.out, HJ.out⟩⟩
theorem zs2 : ∀ args w, (callFunc 176 args).run Tryz.prog w = .ok (.enter 176 args) w := za7 Tryz.func176 (by kernel_rfl) (by kernel_rfl)
end
end Go.Proofs.YtkalofboioffiaaGreat
