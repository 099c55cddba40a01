import Derived.Test.YtkalofboioffiaaGreatQ01
namespace Go.Proofs.YtkalofboioffiaaGreat
open Go.RowKit
set_option maxRecDepth 200000
set_option maxHeartbeats 64000000
open Go.RowKit
section
variable {P : Program} {ops : Array Oper} {E : List Nat} {L : World → World → Prop} {W : World} {Q : Exit → Act → World → Prop}
def Lq (w w' : World) : Prop := Below w.heap.size w w'
theorem Lq.refl (w : World) : Lq w w := Below.refl _ _
theorem Lq.trans {a b c : World} (h : Lq a b) (k : Lq b c) : Lq a c := Below.trans h (Below.mono k h.size)
def zdj : Op → Bool
 | .move _ => true
 | .assign _ => true
 | .pick _ _ _ => true
 | .build _ _ => true
 | .load _ _ => true
 | .binOp _ _ _ _ _ => true
 | .unOp _ _ _ => true
 | .convert _ _ _ => true
 | .slice _ _ _ _ _ => true
 | .fieldAddr _ _ _ => true
 | .field _ _ _ => true
 | .indexAddr _ _ _ => true
 | .index _ _ _ => true
 | .extract _ _ => true
 | .lookup _ _ _ _ => true
 | .call c => (match c.callee with | .builtin .len => true | .builtin .cap => true | _ => false)
 | _ => false
theorem zny {s : Sem Value} {w w' : World} {f : FuncId} {args : Array Value} : (do pure (Next.value (← s)) : Sem Next).run P w ≠ .ok (.enter f args) w' := by
 simp only [Sem.run_bind]
 cases s.run P w <;> simp [Result.andThen]
theorem zet {o : Oper} (h : zdj o.op = true) {ρ : Operand → Value} {w w' : World} {f : FuncId} {args : Array Value} : (execOp ρ o).run P w ≠ .ok (.enter f args) w' := by
 obtain ⟨dst, op, type, pos, after, guard⟩ := o
 cases op
 case call c =>
  obtain ⟨callee, as, ts⟩ := c
  cases callee
  case builtin b => cases b <;> first | (simp [zdj] at h; done) | (unfold execOp; exact zny)
  all_goals simp [zdj] at h
 case pick c x y =>
  unfold execOp
  simp only [Sem.run_bind]
  cases (asBool (ρ c)).run P w <;> simp [Result.andThen]
 case move x => unfold execOp; simp
 case assign x => unfold execOp; simp
 all_goals first | (simp [zdj] at h; done) | (unfold execOp; exact zny)
def zdu (P : Program) (o : Oper) (a : Act) (w : World) (v : Value) : Prop := (execOp a.eval o).run P w = .ok (.value v) w ∨ ((execOp a.eval o).run P w = .ok .skip w ∧ v = undef)
theorem zri {o : Oper} {a : Act} {w : World} {v u : Value} (h : zdu P o a w v) (k : zdu P o a w u) : v = u := by
 rcases h with h | ⟨h, rfl⟩ <;> rcases k with k | ⟨k, rfl⟩
 ·
  rw [h] at k; injection k with e; injection e
 ·
  rw [h] at k; injection k with e; cases e
 ·
  rw [h] at k; injection k with e; cases e
 ·
  rfl
def zj9 (P : Program) (K : Value → World → Prop) : Result Next → Prop
 | .ok (.value v) w' => K v w'
 | .ok .skip w' => K undef w'
 | .ok (.enter f args) w' => Calls P f args w' fun e w'' => ∃ v, e = .returned v ∧ K v w''
 | _ => False
def zd0 (P : Program) (o : Oper) (a : Act) (w : World) (K : Value → World → Prop) : Prop := zj9 P K ((execOp a.eval o).run P w)
theorem zco {o : Oper} {a : Act} {w : World} {K K' : Value → World → Prop} (h : ∀ v w', K v w' → K' v w') (hh : zd0 P o a w K) : zd0 P o a w K' := by
 unfold zd0 at *
 generalize (execOp a.eval o).run P w = r at *
 cases r with
 | ok n w' =>
  cases n <;> simp only [zj9] at hh ⊢
  case value v => exact h _ _ hh
  case skip => exact h _ _ hh
  case enter f args => exact Calls.mono hh fun e w'' ⟨v, he, hk⟩ => ⟨v, he, h _ _ hk⟩
 | halt x w' => simp only [zj9] at hh
theorem zi7 {o : Oper} {a : Act} {w : World} {K : Value → World → Prop} (hh : zd0 P o a w K) : ∃ v w', K v w' := by
 unfold zd0 at *
 generalize (execOp a.eval o).run P w = r at *
 cases r with
 | ok n w' =>
  cases n <;> simp only [zj9] at hh
  case value v => exact ⟨_, _, hh⟩
  case skip => exact ⟨_, _, hh⟩
  case enter f args => obtain ⟨e, w'', _, ⟨v, _, hk⟩, _⟩ := hh []; exact ⟨v, w'', hk⟩
 | halt x w' => simp only [zj9] at hh
theorem zmd {o : Oper} {a : Act} {w : World} {K : Value → World → Prop} {K' : Act → World → Prop} (h : ∀ v w', K v w' → K' (a.put o.dst v) w') (hh : zd0 P o a w K) : o.wp P a w K' Q := by
 unfold zd0 at hh
 unfold Oper.wp
 generalize (execOp a.eval o).run P w = r at *
 cases r with
 | ok n w' =>
  cases n <;> simp only [zj9] at hh <;> simp only [Oper.upon]
  case value v => exact h _ _ hh
  case skip => exact h _ _ hh
  case enter f args => exact Calls.mono hh fun e w'' ⟨v, he, hk⟩ => by subst he; exact h _ _ hk
 | halt x w' => simp only [zj9] at hh
def zdl (o : Oper) (i : Nat) : Bool := o.after.any fun e => Region.binds .any e && e.on == i
theorem zdw {o : Oper} {i : Nat} (h : zdl o i = true) : ∃ e ∈ o.after, Region.binds .any e = true ∧ e.on = i := by
 unfold zdl at h
 rw [Array.any_eq_true] at h
 obtain ⟨j, hj, h⟩ := h
 rw [Bool.and_eq_true, beq_iff_eq] at h
 exact ⟨o.after[j], Array.getElem_mem hj, h.1, h.2⟩
def clsX (L : World → World → Prop) (W : World) (σ : List (Nat × World)) (o : Oper) (w' : World) : Prop := L W w' ∧ ∀ p ∈ σ, zdl o p.1 = true → L p.2 w'
def InvX (L : World → World → Prop) (W : World) (σ : List (Nat × World)) (w : World) : Prop := L W w ∧ ∀ p ∈ σ, L p.2 w
theorem InvX.cls {σ : List (Nat × World)} {w : World} (h : InvX L W σ w) (o : Oper) : clsX L W σ o w := ⟨h.1, fun p hp _ => h.2 p hp⟩
theorem InvX.cons (lr : ∀ w, L w w) (lt : ∀ {a b c : World}, L a b → L b c → L a c) {σ : List (Nat × World)} {w w' : World} (h : InvX L W σ w) (i : Nat) (hl : L w w') : InvX L W ((i, w') :: σ) w' := by
 refine ⟨lt h.1 hl, fun p hp => ?_⟩
 rcases List.mem_cons.1 hp with rfl | hp
 ·
  exact lr _
 ·
  exact lt (h.2 p hp) hl
def xOp (L : World → World → Prop) (P : Program) (ops : Array Oper) (E : List Nat) (W : World) (i : Nat) (K : Act → World → List (Nat × World) → Prop) (a : Act) (w : World) (σ : List (Nat × World)) : Prop :=
 match ops[i]? with
 | none => K a w σ
 | some o =>
  if Region.wanted o (yielded ops a.tmps) = true then
   (if E.contains i = true then zd0 P o a w (fun v w' => L w w' ∧ K (a.put o.dst v) w' ((i, w') :: σ)) else ∃ v, (∀ w', clsX L W σ o w' → zdu P o a w' v) ∧ K (a.put o.dst v) w σ)
  else K (a.put o.dst undef) w σ
theorem yi6 (lr : ∀ w, L w w) (lt : ∀ {a b c : World}, L a b → L b c → L a c) {i : Nat} {K K' : Act → World → List (Nat × World) → Prop} {a : Act} {w : World} {σ : List (Nat × World)} (hi : InvX L W σ w) (h : ∀ a' w' σ', InvX L W σ' w' → K a' w' σ' → K' a' w' σ') (hh : xOp L P ops E W i K a w σ) : xOp L P ops E W i K' a w σ := by
 unfold xOp at *
 split
 ·
  exact h _ _ _ hi (by simpa [*] using hh)
 ·
  rename_i o ho
  simp only [ho] at hh
  split
  ·
   rename_i hw
   rw [if_pos hw] at hh
   split
   ·
    rename_i he
    rw [if_pos he] at hh
    exact zco (fun v w' ⟨hl, hk⟩ => ⟨hl, h _ _ _ (hi.cons lr lt i hl) hk⟩) hh
   ·
    rename_i he
    rw [if_neg he] at hh
    obtain ⟨v, h1, h2⟩ := hh
    exact ⟨v, h1, h _ _ _ hi h2⟩
  ·
   rename_i hw
   rw [if_neg hw] at hh
   exact h _ _ _ hi hh
def wpX (L : World → World → Prop) (P : Program) (ops : Array Oper) (E : List Nat) (W : World) (Q : Exit → Act → World → Prop) : Nat → Array Bool → Act → World → List (Nat × World) → Prop
 | 0, listed, a, w, _ => Region.ready .any ops listed = [] ∧ Q .normal a w
 | fuel + 1, listed, a, w, σ =>
  (Region.ready .any ops listed = [] → Q .normal a w) ∧
  ∀ i ∈ Region.ready .any ops listed, xOp L P ops E W i (fun a' w' σ' => wpX L P ops E W Q fuel (listed.setIfInBounds i true) a' w' σ') a w σ
theorem zfn (lr : ∀ w, L w w) (lt : ∀ {a b c : World}, L a b → L b c → L a c) : ∀ (fuel : Nat) (listed : Array Bool) (a : Act) (w : World) (σ : List (Nat × World)), InvX L W σ w → wpX L P ops E W Q fuel listed a w σ → wpAny P .any ops Q fuel listed a w
 | 0, _, _, _, _, _, h => h
 | fuel + 1, listed, a, w, σ, hi, h => ⟨h.1, fun i hm => by
  have := h.2 i hm
  unfold xOp at this
  unfold wpOp
  split
  ·
   rename_i ho
   simp only [ho] at this
   exact zfn lr lt fuel _ _ _ _ hi this
  ·
   rename_i o ho
   simp only [ho] at this
   split
   ·
    rename_i hw
    rw [if_pos hw] at this
    split at this
    ·
     exact .inl (zmd (fun v w' ⟨hl, hk⟩ => zfn lr lt fuel _ _ _ _ (hi.cons lr lt i hl) hk) this)
    ·
     obtain ⟨v, h1, h2⟩ := this
     refine .inl (zmd (K := fun u w' => u = v ∧ w' = w) (fun u w' ⟨e1, e2⟩ => by subst e1 e2; exact zfn lr lt fuel _ _ _ _ hi h2) ?_)
     have hv := h1 w (hi.cls o)
     unfold zdu at hv
     unfold zd0
     rcases hv with e1 | ⟨e1, e2⟩
     ·
      rw [e1]; exact ⟨rfl, rfl⟩
     ·
      rw [e1, e2]; exact ⟨rfl, rfl⟩
   ·
    rename_i hw
    rw [if_neg hw] at this
    exact zfn lr lt fuel _ _ _ _ hi this⟩
def YX (L : World → World → Prop) (P : Program) (ops : Array Oper) (W : World) (oi : Oper) (v : Value) (a : Act) (σ : List (Nat × World)) : Prop :=
 (Region.wanted oi (yielded ops a.tmps) = true ∧ ∀ w', clsX L W σ oi w' → zdu P oi a w' v) ∨ (Region.wanted oi (yielded ops a.tmps) = false ∧ v = undef)
theorem YX.xOp {i : Nat} {oi : Oper} {v : Value} {a : Act} {w : World} {σ : List (Nat × World)} (ho : ops[i]? = some oi) (hE : E.contains i = false ∨ Region.wanted oi (yielded ops a.tmps) = false) (h : YX L P ops W oi v a σ) {K : Act → World → List (Nat × World) → Prop} (hk : K (a.put oi.dst v) w σ) : xOp L P ops E W i K a w σ := by
 unfold Go.Proofs.YtkalofboioffiaaGreat.xOp
 simp only [ho]
 rcases h with ⟨hw, h⟩ | ⟨hw, rfl⟩
 ·
  rw [if_pos hw]
  rcases hE with hE | hE
  ·
   rw [if_neg (by rw [hE]; exact Bool.false_ne_true)]; exact ⟨v, h, hk⟩
  ·
   rw [hw] at hE; cases hE
 ·
  rw [if_neg (by rw [hw]; exact Bool.false_ne_true)]; exact hk
theorem YX.of_same {oi : Oper} {v : Value} {a a' : Act} {σ σ' : List (Nat × World)} (hy : YX L P ops W oi v a σ) (he : execOp a'.eval oi = execOp a.eval oi)
  (hw : Region.wanted oi (yielded ops a'.tmps) = Region.wanted oi (yielded ops a.tmps)) (hs : ∀ w', clsX L W σ' oi w' → clsX L W σ oi w') : YX L P ops W oi v a' σ' := by
 unfold YX zdu at *
 rw [he, hw]
 exact hy.imp (fun ⟨h1, h2⟩ => ⟨h1, fun w' h => h2 w' (hs w' h)⟩) id
theorem yfm {σ : List (Nat × World)} {o : Oper} {p : Nat × World} {w' : World} (h : clsX L W (p :: σ) o w') : clsX L W σ o w' := ⟨h.1, fun q hq hw => h.2 q (List.mem_cons_of_mem _ hq) hw⟩
theorem znp {σ : List (Nat × World)} {o : Oper} {p : Nat × World} {w' : World} (hn : zdl o p.1 = false) (h : clsX L W σ o w') : clsX L W (p :: σ) o w' := by
 refine ⟨h.1, fun q hq hw => ?_⟩
 rcases List.mem_cons.1 hq with rfl | hq
 ·
  rw [hn] at hw; cases hw
 ·
  exact h.2 q hq hw
theorem yof {j : Nat} {oi oj : Oper} {v : Value} (hj : ops[j]? = some oj) (hap : oi.apart ops oj = true)
  (hsi : ∀ cs b, oi.op ≠ .select cs b) (hsj : ∀ cs b, oj.op ≠ .select cs b) {K : Act → World → List (Nat × World) → Prop} {a : Act} {w : World} {σ : List (Nat × World)}
  (hy : YX L P ops W oi v a σ) (h : xOp L P ops E W j K (a.put oi.dst v) w σ) :
  xOp L P ops E W j (fun a' w' σ' => YX L P ops W oi v a' σ' ∧ K (a'.put oi.dst v) w' σ') a w σ := by
 obtain ⟨h1, h2, h3⟩ := Oper.apart_spec hap
 have keep : ∀ (u : Value) (σ' : List (Nat × World)), (∀ w', clsX L W σ' oi w' → clsX L W σ oi w') → YX L P ops W oi v (a.put oj.dst u) σ' := fun u σ' hs =>
  hy.of_same (execOp_put oi hsi a oj.dst u h3) (wanted_put oi a oj.dst u h3) hs
 unfold xOp at *
 simp only [hj] at *
 rw [wanted_put oj a oi.dst v h1] at h
 split
 ·
  rename_i hw
  rw [if_pos hw] at h
  split
  ·
   rename_i he
   rw [if_pos he] at h
   unfold zd0 at h ⊢
   rw [execOp_put oj hsj a oi.dst v h1] at h
   exact zco (P := P) (o := oj) (a := a) (w := w) (fun u w' ⟨hl, hk⟩ => ⟨hl, keep u _ (fun _ => yfm), by rw [← Act.put_comm a v u h2]; exact hk⟩) h
  ·
   rename_i he
   rw [if_neg he] at h
   obtain ⟨u, hu, hn⟩ := h
   refine ⟨u, fun w' hw' => ?_, keep u _ (fun _ h => h), by rw [← Act.put_comm a v u h2]; exact hn⟩
   have := hu w' hw'
   unfold zdu at *
   rwa [execOp_put oj hsj a oi.dst v h1] at this
 ·
  rename_i hw
  rw [if_neg hw] at h
  exact ⟨keep _ _ (fun _ h => h), by rw [← Act.put_comm a v undef h2]; exact h⟩
theorem zg2 {i : Nat} {oj : Oper} {listed : Array Bool} (hr : i ∈ Region.ready .any ops listed) (hall : ∀ e ∈ oj.after, Region.binds .any e = true → listed.getD e.on false = true) : ∀ e ∈ oj.after, Region.binds .any e = true → e.on ≠ i := fun e he hb heq => by
 have h1 := hall e he hb
 have h0 := (mem_ready.1 hr).1
 rw [heq] at h1
 rcases Nat.lt_or_ge i listed.size with h' | h'
 ·
  simp [h'] at h0 h1; rw [h0] at h1; cases h1
 ·
  simp [Array.getElem?_eq_none h'] at h1
theorem zzt (lr : ∀ w, L w w) (lt : ∀ {a b c : World}, L a b → L b c → L a c) {i : Nat} {oi : Oper} {v : Value} (hi : ops[i]? = some oi) (hsel : ∀ (j : Nat) (o : Oper) cs b, ops[j]? = some o → o.op ≠ .select cs b) :
  ∀ (fuel : Nat) (listed : Array Bool) (a : Act) (w : World) (σ : List (Nat × World)), InvX L W σ w →
   (∀ j oj, ops[j]? = some oj → j ≠ i → listed.getD j true = false → (∀ e ∈ oj.after, Region.binds .any e = true → e.on ≠ i) → oi.apart ops oj = true) →
   i ∈ Region.ready .any ops listed → (E.contains i = false ∨ Region.wanted oi (yielded ops a.tmps) = false) → YX L P ops W oi v a σ →
   wpX L P ops E W Q fuel (listed.setIfInBounds i true) (a.put oi.dst v) w σ → wpX L P ops E W Q (fuel + 1) listed a w σ := by
 intro fuel
 induction fuel with
 | zero =>
  intro listed a w σ _ _ hr hE hy H
  refine ⟨fun h => (by rw [h] at hr; cases hr), fun j hj => ?_⟩
  by_cases hji : j = i
  ·
   subst hji; exact hy.xOp hi hE H
  ·
   have := ready_mono hj hji
   rw [H.1] at this
   cases this
 | succ fuel ih =>
  intro listed a w σ hv hfree hr hE hy H
  refine ⟨fun h => (by rw [h] at hr; cases hr), fun j hj => ?_⟩
  by_cases hji : j = i
  ·
   subst hji; exact hy.xOp hi hE H
  ·
   have h1 := H.2 j (ready_mono hj hji)
   obtain ⟨hjun, oj, hoj, hall⟩ := mem_ready.1 hj
   have hnot := zg2 hr hall
   have hap := hfree j oj hoj hji hjun hnot
   have h2 := yof hoj hap (fun cs b => hsel i oi cs b hi) (fun cs b => hsel j oj cs b hoj) hy h1
   have hfree' : ∀ k ok, ops[k]? = some ok → k ≠ i → (listed.setIfInBounds j true).getD k true = false →
     (∀ e ∈ ok.after, Region.binds .any e = true → e.on ≠ i) → oi.apart ops ok = true := fun k ok hk hki hun hno => by
    refine hfree k ok hk hki ?_ hno
    by_cases hjk : j = k
    ·
     subst hjk; exact hjun
    ·
     rw [getD_set_ne true hjk] at hun; exact hun
   have hkeep : ∀ u, Region.wanted oi (yielded ops (a.put oj.dst u).tmps) = Region.wanted oi (yielded ops a.tmps) := fun u => wanted_put oi a oj.dst u (Oper.apart_spec hap).2.2
   have h3 : xOp L P ops E W j (fun a' w' σ' => (E.contains i = false ∨ Region.wanted oi (yielded ops a'.tmps) = false) ∧ YX L P ops W oi v a' σ' ∧ wpX L P ops E W Q fuel ((listed.setIfInBounds i true).setIfInBounds j true) (a'.put oi.dst v) w' σ') a w σ := by
    unfold xOp at h2 ⊢
    simp only [hoj] at h2 ⊢
    split
    ·
     rename_i hw
     rw [if_pos hw] at h2
     split
     ·
      rename_i he
      rw [if_pos he] at h2
      exact zco (fun u w' ⟨hl, hk⟩ => ⟨hl, by rw [hkeep u]; exact hE, hk⟩) h2
     ·
      rename_i he
      rw [if_neg he] at h2
      obtain ⟨u, hu, hk⟩ := h2
      exact ⟨u, hu, by rw [hkeep u]; exact hE, hk⟩
    ·
     rename_i hw
     rw [if_neg hw] at h2
     exact ⟨by rw [hkeep undef]; exact hE, h2⟩
   refine yi6 lr lt hv (fun a' w' σ' hv' h4 => ih (listed.setIfInBounds j true) a' w' σ' hv' hfree' (ready_mono hr (Ne.symm hji)) h4.1 h4.2.1 ?_) h3
   rw [Array.setIfInBounds_comm _ _ hji]
   exact h4.2.2
def DC (ops : Array Oper) (listed : Array Bool) : Prop := ∀ k o, ops[k]? = some o → listed.getD k false = true → ∀ e ∈ o.after, Region.binds .any e = true → listed.getD e.on false = true
theorem DC.add {listed : Array Bool} {j : Nat} (h : DC ops listed) (hj : j ∈ Region.ready .any ops listed) : DC ops (listed.setIfInBounds j true) := by
 intro k o hk hl e he hb
 obtain ⟨_, oj, hoj, hall⟩ := mem_ready.1 hj
 by_cases hjk : j = k
 ·
  subst hjk
  rw [hoj] at hk
  have e1 := Option.some.inj hk
  subst e1
  exact getD_set_true (hall e he hb)
 ·
  rw [getD_set_ne false hjk] at hl
  exact getD_set_true (h k o hk hl e he hb)
def zdz (ops : Array Oper) : List Nat → Bool
 | i :: j :: r => ((ops[j]?).map fun o => zdl o i).getD false && zdz ops (j :: r)
 | _ => true
theorem zj6 {listed : Array Bool} (hd : DC ops listed) : ∀ (r : List Nat) (i : Nat), zdz ops (i :: r) = true → listed.getD i false = false → ∀ j ∈ r, ¬ j ∈ Region.ready .any ops listed
 | [], _, _, _, j, hj => by simp at hj
 | k :: r, i, hc, hi, j, hj => by
  simp only [zdz, Bool.and_eq_true] at hc
  obtain ⟨hw, hc⟩ := hc
  cases hk : ops[k]? with
  | none => rw [hk] at hw; simp at hw
  | some o =>
   rw [hk] at hw
   obtain ⟨e, he, hb, hon⟩ := zdw (o := o) (i := i) (by simpa using hw)
   have hk0 : listed.getD k false = false := by
    cases hl : listed.getD k false with
    | false => rfl
    | true =>
     have := hd k o hk hl e he hb
     rw [hon, hi] at this; cases this
   rcases List.mem_cons.1 hj with rfl | hj
   ·
    intro hr
    obtain ⟨_, o', ho', hall⟩ := mem_ready.1 hr
    rw [hk] at ho'
    have e1 := Option.some.inj ho'
    subst e1
    have := hall e he hb
    rw [hon, hi] at this; cases this
   ·
    exact zj6 hd r k hc hk0 j hj
theorem unlisted {listed : Array Bool} {i : Nat} (h : i ∈ Region.ready .any ops listed) : listed.getD i false = false := by
 have h0 := (mem_ready.1 h).1
 rcases Nat.lt_or_ge i listed.size with h' | h'
 ·
  simp [h'] at h0 ⊢; exact h0
 ·
  simp [Array.getElem?_eq_none h'] at h0
theorem zkw {listed : Array Bool} (hd : DC ops listed) : ∀ (E : List Nat), zdz ops E = true → ∀ i j, i ∈ E → j ∈ E → i ∈ Region.ready .any ops listed → j ∈ Region.ready .any ops listed → i = j
 | [], _, _, _, hi, _, _, _ => by simp at hi
 | k :: r, hc, i, j, hi, hj, ri, rj => by
  have htail : zdz ops r = true := by
   cases r with
   | nil => rfl
   | cons x r => simp only [zdz, Bool.and_eq_true] at hc; exact hc.2
  rcases List.mem_cons.1 hi with e1 | hi <;> rcases List.mem_cons.1 hj with e2 | hj
  ·
   rw [e1, e2]
  ·
   rw [e1] at ri; exact absurd rj (zj6 hd r k hc (unlisted ri) j hj)
  ·
   rw [e2] at rj; exact absurd ri (zj6 hd r k hc (unlisted rj) i hi)
  ·
   exact zkw hd r htail i j hi hj ri rj
theorem z8l {i : Nat} {oi : Oper} (hi : ops[i]? = some oi) (hE : E.contains i = true) (hc : zdz ops E = true) (hsel : ∀ (j : Nat) (o : Oper) cs b, ops[j]? = some o → o.op ≠ .select cs b) :
  ∀ (fuel : Nat) (listed : Array Bool) (a : Act) (w : World) (σ : List (Nat × World)), InvX L W σ w → DC ops listed →
   (∀ j oj, ops[j]? = some oj → j ≠ i → listed.getD j true = false → (∀ e ∈ oj.after, Region.binds .any e = true → e.on ≠ i) → oi.apart ops oj = true) →
   i ∈ Region.ready .any ops listed → Region.wanted oi (yielded ops a.tmps) = true →
   zd0 P oi a w (fun v w' => L w w' ∧ wpX L P ops E W Q fuel (listed.setIfInBounds i true) (a.put oi.dst v) w' ((i, w') :: σ)) → wpX L P ops E W Q (fuel + 1) listed a w σ := by
 intro fuel
 induction fuel with
 | zero =>
  intro listed a w σ _ _ _ hr hw H
  refine ⟨fun h => (by rw [h] at hr; cases hr), fun j hj => ?_⟩
  by_cases hji : j = i
  ·
   subst hji; unfold xOp; simp only [hi]; rw [if_pos hw, if_pos hE]; exact H
  ·
   obtain ⟨v, w', _, h0⟩ := zi7 H
   have := ready_mono hj hji
   rw [h0.1] at this
   cases this
 | succ fuel ih =>
  intro listed a w σ hv hdc hfree hr hw H
  refine ⟨fun h => (by rw [h] at hr; cases hr), fun j hj => ?_⟩
  by_cases hji : j = i
  ·
   subst hji; unfold xOp; simp only [hi]; rw [if_pos hw, if_pos hE]; exact H
  ·
   obtain ⟨hjun, oj, hoj, hall⟩ := mem_ready.1 hj
   have hnot := zg2 hr hall
   have hap := hfree j oj hoj hji hjun hnot
   obtain ⟨a1, a2, a3⟩ := Oper.apart_spec hap
   have hsi := fun cs b => hsel i oi cs b hi
   have hsj := fun cs b => hsel j oj cs b hoj
   have hjE : ¬ E.contains j = true := fun h => hji (zkw hdc E hc j i (by simpa using h) (by simpa using hE) hj hr)
   have hnw : zdl oj i = false := by
    cases h : zdl oj i with
    | false => rfl
    | true => obtain ⟨e, he, hb, hon⟩ := zdw h; exact absurd hon (hnot e he hb)
   have hfree' : ∀ k ok, ops[k]? = some ok → k ≠ i → (listed.setIfInBounds j true).getD k true = false →
     (∀ e ∈ ok.after, Region.binds .any e = true → e.on ≠ i) → oi.apart ops ok = true := fun k ok hk hki hun hno => by
    refine hfree k ok hk hki ?_ hno
    by_cases hjk : j = k
    ·
     subst hjk; exact hjun
    ·
     rw [getD_set_ne true hjk] at hun; exact hun
   have hr' := ready_mono hr (Ne.symm hji)
   have next : ∀ u, (∀ v w', wpX L P ops E W Q (fuel + 1) (listed.setIfInBounds i true) (a.put oi.dst v) w' ((i, w') :: σ) → wpX L P ops E W Q fuel ((listed.setIfInBounds i true).setIfInBounds j true) ((a.put oi.dst v).put oj.dst u) w' ((i, w') :: σ)) →
     wpX L P ops E W Q (fuel + 1) (listed.setIfInBounds j true) (a.put oj.dst u) w σ := fun u hn => by
    refine ih (listed.setIfInBounds j true) (a.put oj.dst u) w σ hv (hdc.add hj) hfree' hr' (by rw [wanted_put oi a oj.dst u a3]; exact hw) ?_
    have H2 := zco (fun v w' ⟨hl, hk⟩ => (⟨hl, hn v w' hk⟩ : L w w' ∧ _)) H
    unfold zd0 at H2 ⊢
    rw [execOp_put oi hsi a oj.dst u a3]
    refine zco (P := P) (o := oi) (a := a) (w := w) (fun v w' ⟨hl, hk⟩ => ⟨hl, ?_⟩) H2
    rw [Array.setIfInBounds_comm _ _ hji, ← Act.put_comm a v u a2]
    exact hk
   obtain ⟨v0, w0, hl0, H0⟩ := zi7 H
   have h1 := H0.2 j (ready_mono hj hji)
   unfold xOp at h1 ⊢
   simp only [hoj] at h1 ⊢
   rw [wanted_put oj a oi.dst v0 a1] at h1
   split
   ·
    rename_i hwj
    rw [if_pos hwj, if_neg hjE] at h1
    obtain ⟨c, hc1, hc2⟩ := h1
    have hval : ∀ w', clsX L W σ oj w' → zdu P oj a w' c := fun w' hw' => by
     have := hc1 w' (znp hnw hw')
     unfold zdu at *
     rwa [execOp_put oj hsj a oi.dst v0 a1] at this
    refine ⟨c, hval, next c fun v w' hk => ?_⟩
    have h2 := hk.2 j (ready_mono hj hji)
    unfold xOp at h2
    simp only [hoj] at h2
    rw [wanted_put oj a oi.dst v a1, if_pos hwj, if_neg hjE] at h2
    obtain ⟨c', hc1', hc2'⟩ := h2
    have e : c' = c := by
     refine zri ?_ (hval w (hv.cls oj))
     have := hc1' w (znp hnw (hv.cls oj))
     unfold zdu at *
     rwa [execOp_put oj hsj a oi.dst v a1] at this
    subst e
    exact hc2'
   ·
    rename_i hwj
    refine next undef fun v w' hk => ?_
    have h2 := hk.2 j (ready_mono hj hji)
    unfold xOp at h2
    simp only [hoj] at h2
    rw [wanted_put oj a oi.dst v a1, if_neg hwj] at h2
    exact h2
def wpXL (L : World → World → Prop) (P : Program) (ops : Array Oper) (E : List Nat) (W : World) (Q : Exit → Act → World → Prop) : Nat → List Oper → Act → World → List (Nat × World) → Prop
 | _, [], a, w, _ => Q .normal a w
 | k, o :: rest, a, w, σ =>
  if Region.wanted o (yielded ops a.tmps) = true then
   (if E.contains k = true then zd0 P o a w (fun v w' => L w w' ∧ wpXL L P ops E W Q (k + 1) rest (a.put o.dst v) w' ((k, w') :: σ)) else ∃ v, (∀ w', clsX L W σ o w' → zdu P o a w' v) ∧ wpXL L P ops E W Q (k + 1) rest (a.put o.dst v) w σ)
  else wpXL L P ops E W Q (k + 1) rest (a.put o.dst undef) w σ
theorem z2h (lr : ∀ w, L w w) (lt : ∀ {a b c : World}, L a b → L b c → L a c) (hs : Region.noSelect ops = true) (hc : zdz ops E = true) : ∀ (l : List Oper) (k : Nat) (listed : Array Bool) (a : Act) (w : World) (σ : List (Nat × World)), InvX L W σ w → DC ops listed → (∀ j, l[j]? = ops[k + j]?) →
  Region.lexFrom .any ops l.length k listed = true → wpXL L P ops E W Q k l a w σ → wpX L P ops E W Q l.length listed a w σ
 | [], _, _, _, _, _, _, _, _, hB, h => ⟨by simpa [Region.lexFrom] using hB, h⟩
 | o :: l, k, listed, a, w, σ, hv, hd, hl, hB, h => by
  have h0 : ops[k]? = some o := by simpa using (hl 0).symm
  simp only [List.length_cons, Region.lexFrom, Bool.and_eq_true] at hB
  obtain ⟨⟨hr, hf⟩, hB'⟩ := hB
  have hr' : k ∈ Region.ready .any ops listed := by simpa using hr
  have next : ∀ a' w' σ', InvX L W σ' w' → wpXL L P ops E W Q (k + 1) l a' w' σ' → wpX L P ops E W Q l.length (listed.setIfInBounds k true) a' w' σ' := fun a' w' σ' hv' h' =>
   z2h lr lt hs hc l (k + 1) _ a' w' σ' hv' (hd.add hr') (fun j => by have := hl (j + 1); simpa [Nat.add_assoc, Nat.add_comm 1 j] using this) hB' h'
  unfold wpXL at h
  split at h
  ·
   rename_i hw
   split at h
   ·
    rename_i hE
    exact z8l h0 hE hc (Region.noSelect_spec hs) l.length listed a w σ hv hd (Region.free_spec h0 hf) hr' hw (zco (fun v w' ⟨hl', hk⟩ => ⟨hl', next _ _ _ (hv.cons lr lt k hl') hk⟩) h)
   ·
    rename_i hE
    obtain ⟨v, h1, h2⟩ := h
    exact zzt lr lt h0 (Region.noSelect_spec hs) l.length listed a w σ hv (Region.free_spec h0 hf) hr' (.inl (by simpa using hE)) (.inl ⟨hw, h1⟩) (next _ _ _ hv h2)
  ·
   rename_i hw
   have hw' : Region.wanted o (yielded ops a.tmps) = false := by simpa using hw
   exact zzt lr lt h0 (Region.noSelect_spec hs) l.length listed a w σ hv (Region.free_spec h0 hf) hr' (.inr hw') (.inr ⟨hw', rfl⟩) (next _ _ _ hv h)
theorem zak {B : Nat} {a w : World} (h : Below B a w) (n : Nat) : Below B a (w.drewN n) := ⟨h.os, h.tape, h.output, h.size, h.block⟩
theorem zac {a w w' : World} (h : Below a.heap.size a w) (k : Below w.heap.size w w') : Below a.heap.size a w' := h.trans (k.mono h.size)
theorem ztp (lr : ∀ w, L w w) (lt : ∀ {a b c : World}, L a b → L b c → L a c) (E : List Nat) {id : Nat} {a : Act} {w : World} {l : List Oper} (hm : P.follows .mixedOrders = true) (hB : Region.lexB .any l.toArray = true) (hc : zdz l.toArray E = true)
  (h : wpXL L P l.toArray E w.drew Q 0 l a w.drew []) : (Code.region id l.toArray true).wp P Q a w := by
 simp only [Region.lexB, Bool.and_eq_true] at hB
 refine wp_region_any hm (zfn (L := L) lr lt (E := E) (W := w.drew) _ _ _ _ [] ⟨lr _, by simp⟩ ?_)
 have hd : DC l.toArray (Array.replicate l.toArray.size false) := fun k o _ hl => by
  rw [Array.getD_eq_getD_getElem?, Array.getElem?_replicate] at hl
  split at hl <;> simp at hl
 have := z2h (P := P) (L := L) lr lt (E := E) (W := w.drew) (Q := Q) hB.1 hc l 0 (Array.replicate l.toArray.size false) a w.drew [] ⟨lr _, by simp⟩ hd (by simp) (by simpa using hB.2) h
 simpa using this
theorem zan (E : List Nat) {id : Nat} {a : Act} {w : World} {l : List Oper} (hm : P.follows .mixedOrders = true) (hB : Region.lexB .any l.toArray = true) (hc : zdz l.toArray E = true)
  (h : wpXL Lq P l.toArray E w.drew Q 0 l a w.drew []) : (Code.region id l.toArray true).wp P Q a w := ztp Lq.refl (fun h k => Lq.trans h k) E hm hB hc h
theorem zse (B : Nat) (E : List Nat) {id : Nat} {a : Act} {w : World} {l : List Oper} (hm : P.follows .mixedOrders = true) (hB : Region.lexB .any l.toArray = true) (hc : zdz l.toArray E = true)
  (h : wpXL (Below B) P l.toArray E w.drew Q 0 l a w.drew []) : (Code.region id l.toArray true).wp P Q a w := ztp (Below.refl B) (fun h k => h.trans k) E hm hB hc h
structure WdB (B : Nat) (W : World) where
 w : World
 h : Below B W w
instance (B : Nat) (W : World) : Inhabited (WdB B W) := ⟨⟨W, Below.refl _ _⟩⟩
theorem zbd {k : Nat} {a : Act} {w : World} {σ : List (Nat × World)} (h : Q .normal a w) : wpXL L P ops E W Q k [] a w σ := h
theorem zrm {k : Nat} {o : Oper} {rest : List Oper} {a : Act} {w : World} {σ : List (Nat × World)} (hE : E.contains k = false) (hp : zdj o.op = true) (C : World → Prop) (h0 : ∀ w', clsX L W σ o w' → C w')
  (h : wpQuiet P ops C (fun a' => wpXL L P ops E W Q (k + 1) rest a' w σ) [o] a) : wpXL L P ops E W Q k (o :: rest) a w σ := by
 unfold wpXL
 unfold wpQuiet at h
 split
 ·
  rename_i hw
  rw [if_pos hw] at h
  rw [if_neg (by rw [hE]; exact Bool.false_ne_true)]
  obtain ⟨v, h1, h2⟩ := h
  refine ⟨v, fun w' hw' => ?_, h2⟩
  have := h1 w' (h0 w' hw')
  unfold Oper.quietAt at this
  unfold zdu
  have hne := fun f args w'' => zet (P := P) hp (ρ := a.eval) (w := w') (w' := w'') (f := f) (args := args)
  generalize (execOp a.eval o).run P w' = r at *
  cases r with
  | ok n w1 =>
   cases n <;> simp only [Oper.quietUpon] at this
   case value u => obtain ⟨rfl, rfl⟩ := this; exact .inl rfl
   case skip => obtain ⟨rfl, rfl⟩ := this; exact .inr ⟨rfl, rfl⟩
   case enter f args => exact absurd rfl (hne f args w1)
  | halt x w1 => simp only [Oper.quietUpon] at this
 ·
  rename_i hw
  rw [if_neg hw] at h
  exact h
theorem zae {k : Nat} {o : Oper} {rest : List Oper} {a : Act} {w : World} {σ : List (Nat × World)} (hE : E.contains k = false) (hp : zdj o.op = true) (w0 : World) (h0 : ∀ w', clsX Lq W σ o w' → Lq w0 w')
  (h : wpQuiet P ops (fun w' => ∃ p : Wd w0, w' = p.w) (fun a' => wpXL Lq P ops E W Q (k + 1) rest a' w σ) [o] a) : wpXL Lq P ops E W Q k (o :: rest) a w σ :=
 zrm hE hp _ (fun w' hw' => ⟨⟨w', h0 w' hw'⟩, rfl⟩) h
theorem zko {B : Nat} {k : Nat} {o : Oper} {rest : List Oper} {a : Act} {w : World} {σ : List (Nat × World)} (hE : E.contains k = false) (hp : zdj o.op = true)
  (h : wpQuiet P ops (fun w' => ∃ p : WdB B W, w' = p.w) (fun a' => wpXL (Below B) P ops E W Q (k + 1) rest a' w σ) [o] a) : wpXL (Below B) P ops E W Q k (o :: rest) a w σ :=
 zrm hE hp _ (fun w' hw' => ⟨⟨w', hw'.1⟩, rfl⟩) h
theorem zah {k : Nat} {o : Oper} {rest : List Oper} {a : Act} {w : World} {σ : List (Nat × World)} (hw : Region.wanted o (yielded ops a.tmps) = false) (h : wpXL L P ops E W Q (k + 1) rest (a.put o.dst undef) w σ) : wpXL L P ops E W Q k (o :: rest) a w σ := by
 unfold wpXL
 rw [if_neg (by rw [hw]; exact Bool.false_ne_true)]
 exact h
theorem zaf {σ : List (Nat × World)} {o : Oper} : ∀ w', clsX L W σ o w' → L W w' := fun _ h => h.1
theorem z9l {σ : List (Nat × World)} {o : Oper} (i : Nat) (wi : World) (hm : (i, wi) ∈ σ) (hw : zdl o i = true) : ∀ w', clsX L W σ o w' → L wi w' := fun _ h => h.2 _ hm hw
theorem zau {k : Nat} {o : Oper} {rest : List Oper} {a : Act} {w : World} {σ : List (Nat × World)} (hE : E.contains k = true) (hw : Region.wanted o (yielded ops a.tmps) = true) {f : FuncId} {xs : Array Operand} {ts : Array TypeId}
  (ho : o.op = .call { callee := .value (.func f), args := xs, argTypes := ts }) (hen : ∀ args w, (callFunc f args).run P w = .ok (.enter f args) w)
  (args : Array Value) (hargs : xs.toList.map a.eval = args.toList) (h : Calls P f args w fun e w' => ∃ v, e = .returned v ∧ L w w' ∧ wpXL L P ops E W Q (k + 1) rest (a.put o.dst v) w' ((k, w') :: σ)) : wpXL L P ops E W Q k (o :: rest) a w σ := by
 unfold wpXL
 rw [if_pos hw, if_pos hE]
 unfold zd0
 have hargs : xs.map a.eval = args := Array.toList_inj.1 (by rw [Array.toList_map]; exact hargs)
 subst hargs
 have : (execOp a.eval o).run P w = .ok (.enter f (xs.map a.eval)) w := by
  unfold execOp
  simp [ho, resolve, invoke, Act.eval, Deferred.ofValue, hen]
 rw [this]
 exact h
theorem zcd {k : Nat} {o : Oper} {rest : List Oper} {a : Act} {w : World} {σ : List (Nat × World)} (hE : E.contains k = true) (hw : Region.wanted o (yielded ops a.tmps) = true) (v : Value) (w' : World)
  (hrun : (execOp a.eval o).run P w = .ok (.value v) w') (hl : L w w') (h : wpXL L P ops E W Q (k + 1) rest (a.put o.dst v) w' ((k, w') :: σ)) : wpXL L P ops E W Q k (o :: rest) a w σ := by
 unfold wpXL
 rw [if_pos hw, if_pos hE]
 unfold zd0
 rw [hrun]
 exact ⟨hl, h⟩
attribute [irreducible] wpXL
end
end Go.Proofs.YtkalofboioffiaaGreat
