/-
  A tree that lies in a variable while a law asks of it (for seats of layer 9 and later; XLaw06, XLaw07, XLaw08 have their own).
  A list of noughts that make makes.
  Slices beside votes that are stored into a variable.
  A uint64 that comes in, as a number of that kind.
  A region that draws its order in a function that hands something on (in a fence that shuts nothing out): ONE walk, in the text's order, as in XLexT; what is handed on is an effect as a call is, and may turn whatever it will; for every program. (written by gen/lexI.py out of XLex and XLexT)
-/
import Derived.Test.YtccihllcohnnnaaQ17
import Derived.Test.YtccihllcohnnnaaQ16
import Derived.OwnWalk
import Derived.Test.YtccihllcohnnnaaQ10
import Derived.Test.YtccihllcohnnnaaQ25
import Derived.RangeFuncSeq
import Derived.OrdersIn
namespace Go.Proofs.Ytccihllcohnnnaa
open Go.RowKit
set_option maxRecDepth 100000

/-- A tree in a variable. -/
structure Tw (w W : World) (T : Nat) (s : SlV) (l : List Nd) : Prop where
  box : W.heap[T]? = some (.cells (tr ⟨s⟩) 24 (0, 0))
  s : SlE Ene W (sv s) l
  g : Below w.heap.size w W
section
variable {w W W' : World} {T : Nat} {s : SlV} {l : List Nd}
theorem Tw.keep (h : Tw w W T s l) (g : Below W.heap.size W W') : Tw w W' T s l := ⟨blk_keep g h.box, slE_keep g h.s, belowT h.g g⟩
theorem Tw.z1 (h : Tw w W T s l) : ldA W (.pointer (some ⟨T, 0, none⟩)) 1 = some (tr ⟨s⟩) := (tr_cells h.box).2.1
theorem Tw.z0 (h : Tw w W T s l) : W.cell? ⟨T, 0, none⟩ = some (sv s) := (tr_cells h.box).1
theorem tw_one (h : SlE Ene w (sv s) l) : Tw w (w.alloc (.cells (tr ⟨s⟩) 24)) w.heap.size s l := ⟨heap_alloc_last w _, slE_keep below1 h, below1⟩
end
end Go.Proofs.Ytccihllcohnnnaa
namespace Go.Proofs.Ytccihllcohnnnaa
open Go.RowKit
set_option maxRecDepth 100000

/-- A list of noughts, made: a row of the call's own. -/
theorem zeros_own {w : World} {base : Nat} {v : Value} {n : Nat} (h : w.ownsRow base 26 1 v n (madeCells (num 0).cells (n * 1)).toList) : OwnE Enum w base v (List.replicate n 0) := by
  have e : (madeCells (num 0).cells (n * 1)).toList = cellsE Enum (List.replicate n 0) := by
    refine List.ext_getElem? fun i => ?_
    have h1 : (cellsE Enum (List.replicate n 0)).length = n := by rw [cellsE_length, List.length_replicate]; show n * 1 = n; omega
    by_cases hi : i < n
    · have h2 := cellsE_get Enum (List.replicate n 0) i 0 (by simpa using hi) (by decide)
      rw [show i * Enum.n + 0 = i by show i * 1 + 0 = i; omega] at h2
      rw [h2, List.getElem_replicate, Array.getElem?_toList]
      have h3 : i < (madeCells (num 0).cells (n * 1)).size := by rw [size_madeCells]; omega
      rw [Array.getElem?_eq_getElem h3]
      simp [madeCells, num, Value.cells, Enum]
      rw [Nat.mod_one]
      rfl
    · rw [List.getElem?_eq_none (by rw [Array.length_toList, size_madeCells]; omega), List.getElem?_eq_none (by omega)]
  unfold OwnE
  rw [List.length_replicate, ← e]
  exact h
/-- A list of noughts, made. -/
theorem made_zeros {w : World} {base : Nat} {v : Value} {n : Nat} (h : w.ownsRow base 26 1 v n (madeCells (num 0).cells (n * 1)).toList) : SlE Enum w v (List.replicate n 0) := ownE_slE (zeros_own h)
end Go.Proofs.Ytccihllcohnnnaa
namespace Go.Proofs.Ytccihllcohnnnaa
open Go.RowKit
set_option maxRecDepth 100000

theorem slE_not_vo2 {α : Type} {E : Lie α} (hE : 2 < E.n) {w : World} {v : Value} {l : List α} {g : Nat} {x : Vo} {t : TypeId} {fr : Nat × Nat} (h : SlE E w v l) (hg : w.heap[g]? = some (.cells (vo x) t fr)) : l = [] ∨ v.ownBlock ≠ some g := by
  by_cases hl : l = []
  · exact .inl hl
  · refine .inr fun e => ?_
    obtain ⟨b, off, cap, rfl, _, _, hr⟩ := slE_ne h (List.length_pos_iff.2 hl)
    have hb : b = g := by simpa [Value.ownBlock] using e
    subst hb
    have hlen : 3 ≤ (cellsE E l).length := by
      rw [cellsE_length]
      have : 0 < l.length := List.length_pos_iff.2 hl
      have := Nat.mul_le_mul (show 1 ≤ l.length from this) (show 3 ≤ E.n from hE)
      omega
    have hv : (cellsE E l)[2]? = some ((cellsE E l)[2]'(by omega)) := List.getElem?_eq_getElem _
    have := hr 2 _ hv
    rw [cell_of_row _ _ _ _ _ _ hg, Array.getElem?_eq_none (by rw [vo_size]; omega)] at this
    cases this
theorem slE_vo_put {α : Type} {E : Lie α} (hE : 2 < E.n) {w : World} {v y : Value} {l : List α} {g : Nat} {x : Vo} {t : TypeId} {fr : Nat × Nat} (h : SlE E w v l) (hg : w.heap[g]? = some (.cells (vo x) t fr)) : SlE E (stA w (.pointer (some ⟨g, 0, none⟩)) y) v l := by
  rcases slE_not_vo2 hE h hg with e | e
  · subst e
    obtain ⟨p, cap, rfl, _⟩ := h
    exact slE_nil _ _ _ _
  · exact slE_block h (by rw [size_stA]; exact Nat.le_refl _) (fun k _ hk => heap_stA (fun e2 => e (by rw [hk, e2])))

theorem lats_epoch14 {w : World} {b off : Nat} {l : List Lt} (h : w.rangeAt b off (cellsE Elt l)) {i : Nat} (hi : i < l.length) : w.cell? ⟨b, off + i * 34 + 33, none⟩ = some (.int .u64 ((lat l i).epoch.toNat : Int)) := by
  have := lt_rd_epoch (range_at h hi)
  rw [lat_in hi]
  exact this
end Go.Proofs.Ytccihllcohnnnaa
namespace Go.Proofs.Ytccihllcohnnnaa
set_option maxRecDepth 100000
theorem u64_of {n : Int} (h : (Lit.int .u64 n).wf = true) : ∃ q : UInt64, n = (q.toNat : Int) := by
  have hb : (decide (IntKind.u64.min ≤ n) && decide (n ≤ IntKind.u64.max)) = true := h
  rw [Bool.and_eq_true, decide_eq_true_eq, decide_eq_true_eq, show IntKind.u64.min = 0 from rfl, show IntKind.u64.max = 18446744073709551615 from rfl] at hb
  refine ⟨UInt64.ofNat n.toNat, ?_⟩
  rw [UInt64.toNat_ofNat', Nat.mod_eq_of_lt (by simp; omega)]
  omega
end Go.Proofs.Ytccihllcohnnnaa
namespace Go.Proofs.Ytccihllcohnnnaa
open Go.RowKit
set_option maxRecDepth 100000
section
variable {P : Program} {ops : Array Oper} {E S1 : List Nat} {L1 L2 : World → World → Prop} {W : World} {Q : Exit → Act → World → Prop} {nF : Nat}

/-- What an operation comes to that may write, or call. -/
def effUponI (nF : Nat) (P : Program) (K : Value → World → Prop) : Result Next → Prop
  | .ok (.value v) w' => K v w'
  | .ok .skip w' => K undef w'
  | .ok (.enter f args) w' => Calls P f args w' fun e w'' => ∃ v, e = .returned v ∧ K v w''
  | .ok (.round l f tmps assign body) w' => RoundIn Fence.wide (nF - 1) P l f tmps assign body w' fun e w'' => ∃ v, e = .returned v ∧ K v w''
  | _ => False
def effAtI (nF : Nat) (P : Program) (o : Oper) (a : Act) (w : World) (K : Value → World → Prop) : Prop := effUponI nF P K ((execOp a.eval o).run P w)
theorem effAt_monoI {o : Oper} {a : Act} {w : World} {K K' : Value → World → Prop} (h : ∀ v w', K v w' → K' v w') (hh : effAtI nF P o a w K) : effAtI nF P o a w K' := by
  unfold effAtI at *
  generalize (execOp a.eval o).run P w = r at *
  cases r with
  | ok n w' =>
    cases n <;> simp only [effUponI] at hh ⊢
    case value v => exact h _ _ hh
    case skip => exact h _ _ hh
    case enter f args => exact Calls.mono hh fun e w'' ⟨v, he, hk⟩ => ⟨v, he, h _ _ hk⟩
    case round l f tmps assign body => exact RoundIn.mono hh fun e w'' ⟨v, he, hk⟩ => ⟨v, he, h _ _ hk⟩
  | halt x w' => simp only [effUponI] at hh
theorem effAt_someI {o : Oper} {a : Act} {w : World} {K : Value → World → Prop} (hh : effAtI nF P o a w K) : ∃ v w', K v w' := by
  unfold effAtI at *
  generalize (execOp a.eval o).run P w = r at *
  cases r with
  | ok n w' =>
    cases n <;> simp only [effUponI] at hh
    case value v => exact ⟨_, _, hh⟩
    case skip => exact ⟨_, _, hh⟩
    case enter f args => obtain ⟨e, w'', _, ⟨v, _, hk⟩, _⟩ := hh []; exact ⟨v, w'', hk⟩
    case round l f tmps assign body => obtain ⟨e, w'', ⟨v, _, hk⟩, _⟩ := hh.2 default [] (room_wide _); exact ⟨v, w'', hk⟩
  | halt x w' => simp only [effUponI] at hh
theorem wp_of_effI {o : Oper} {a : Act} {w : World} {K : Value → World → Prop} {K' : Act → World → Prop} (h : ∀ v w', K v w' → K' (a.put o.dst v) w') (hh : effAtI nF P o a w K) : o.wpIn Fence.wide nF P a w K' Q := by
  unfold effAtI at hh
  unfold Oper.wpIn
  refine ⟨fun _ _ => trivial, ?_⟩
  rw [show Fence.wide.round = none from rfl, Oper.semAt_none]
  generalize (execOp a.eval o).run P w = r at *
  cases r with
  | ok n w' =>
    cases n <;> simp only [effUponI] at hh <;> simp only [Oper.uponIn]
    case value v => exact h _ _ hh
    case skip => exact h _ _ hh
    case enter f args => exact ⟨fun e => (by cases e), callsIn_wide.2 (Calls.mono hh fun e w'' ⟨v, he, hk⟩ => by subst he; exact h _ _ hk)⟩
    case round l f tmps assign body => exact ⟨fun e => (by cases e), RoundIn.mono hh fun e w'' ⟨v, he, hk⟩ => by subst he; exact h _ _ hk⟩
  | halt x w' => simp only [effUponI] at hh

/-- Operation number i comes up. -/
def xOp2I (nF : Nat) (L1 L2 : World → World → Prop) (S1 : List Nat) (P : Program) (ops : Array Oper) (E : List Nat) (W : World) (i : Nat) (K : Act → World → List (Nat × World) → Prop) (a : Act) (w : World) (σ : List (Nat × World)) : Prop :=
  match ops[i]? with
  | none => K a w σ
  | some o =>
    if Region.wanted o (yielded ops a.tmps) = true then
      (if E.contains i = true then effAtI nF P o a w (fun v w' => relE L1 L2 ops S1 o w w' ∧ K (a.put o.dst v) w' ((i, w') :: σ)) else ∃ v, (∀ w', cls2 L1 L2 S1 W σ i o w' → valAt P o a w' v) ∧ K (a.put o.dst v) w σ)
    else K (a.put o.dst undef) w σ
theorem xOp2_monoI (T : Two L1 L2) {listed : Array Bool} {i : Nat} {K K' : Act → World → List (Nat × World) → Prop} {a : Act} {w : World} {σ : List (Nat × World)} (hi : Inv2 L1 L2 ops S1 W listed σ w) (hr : i ∈ Region.ready .any ops listed) (h : ∀ a' w' σ', Inv2 L1 L2 ops S1 W (listed.setIfInBounds i true) σ' w' → K a' w' σ' → K' a' w' σ') (hh : xOp2I nF L1 L2 S1 P ops E W i K a w σ) : xOp2I nF L1 L2 S1 P ops E W i K' a w σ := by
  unfold xOp2I at *
  split
  · exact h _ _ _ (hi.step hr) (by simpa [*] using hh)
  · rename_i o ho
    simp only [ho] at hh
    split
    · rename_i hw
      rw [if_pos hw] at hh
      split
      · rename_i he
        rw [if_pos he] at hh
        exact effAt_monoI (fun v w' ⟨hl, hk⟩ => ⟨hl, h _ _ _ (hi.cons T ho hr hl) hk⟩) hh
      · rename_i he
        rw [if_neg he] at hh
        obtain ⟨v, h1, h2⟩ := hh
        exact ⟨v, h1, h _ _ _ (hi.step hr) h2⟩
    · rename_i hw
      rw [if_neg hw] at hh
      exact h _ _ _ (hi.step hr) hh

/-- Whatever order is picked from here on. -/
def wpX2I (nF : Nat) (L1 L2 : World → World → Prop) (S1 : List Nat) (P : Program) (ops : Array Oper) (E : List Nat) (W : World) (Q : Exit → Act → World → Prop) : Nat → Array Bool → Act → World → List (Nat × World) → Prop
  | 0, listed, a, w, _ => Region.ready .any ops listed = [] ∧ Q .normal a w
  | fuel + 1, listed, a, w, σ =>
    (Region.ready .any ops listed = [] → Q .normal a w) ∧
    ∀ i ∈ Region.ready .any ops listed, xOp2I nF L1 L2 S1 P ops E W i (fun a' w' σ' => wpX2I nF L1 L2 S1 P ops E W Q fuel (listed.setIfInBounds i true) a' w' σ') a w σ

theorem wpAny_of_X2I (T : Two L1 L2) : ∀ (fuel : Nat) (listed : Array Bool) (a : Act) (w : World) (σ : List (Nat × World)), Inv2 L1 L2 ops S1 W listed σ w → wpX2I nF L1 L2 S1 P ops E W Q fuel listed a w σ → wpAnyIn Fence.wide nF P .any ops Q fuel listed a w
  | 0, _, _, _, _, _, h => h
  | fuel + 1, listed, a, w, σ, hi, h => ⟨h.1, fun i hm => by
    have := h.2 i hm
    unfold xOp2I at this
    unfold wpOpIn
    split
    · rename_i ho
      simp only [ho] at this
      exact wpAny_of_X2I T fuel _ _ _ _ (hi.step hm) this
    · rename_i o ho
      simp only [ho] at this
      split
      · rename_i hw
        rw [if_pos hw] at this
        split at this
        · exact (wp_of_effI (fun v w' ⟨hl, hk⟩ => wpAny_of_X2I T fuel _ _ _ _ (hi.cons T ho hm hl) hk) this)
        · obtain ⟨v, h1, h2⟩ := this
          refine (wp_of_effI (K := fun u w' => u = v ∧ w' = w) (fun u w' ⟨e1, e2⟩ => by subst e1 e2; exact wpAny_of_X2I T fuel _ _ _ _ (hi.step hm) h2) ?_)
          have hv := h1 w (hi.cls hm o)
          unfold valAt at hv
          unfold effAtI
          rcases hv with e1 | ⟨e1, e2⟩
          · rw [e1]; exact ⟨rfl, rfl⟩
          · rw [e1, e2]; exact ⟨rfl, rfl⟩
      · rename_i hw
        rw [if_neg hw] at this
        exact ⟨fun _ _ => trivial, wpAny_of_X2I T fuel _ _ _ _ (hi.step hm) this⟩⟩

theorem YX2.xOpI {i : Nat} {oi : Oper} {v : Value} {a : Act} {w : World} {σ : List (Nat × World)} (ho : ops[i]? = some oi) (hE : E.contains i = false ∨ Region.wanted oi (yielded ops a.tmps) = false) (h : YX2 L1 L2 S1 P ops W i oi v a σ) {K : Act → World → List (Nat × World) → Prop} (hk : K (a.put oi.dst v) w σ) : xOp2I nF L1 L2 S1 P ops E W i K a w σ := by
  unfold xOp2I
  simp only [ho]
  rcases h with ⟨hw, h⟩ | ⟨hw, rfl⟩
  · rw [if_pos hw]
    rcases hE with hE | hE
    · rw [if_neg (by rw [hE]; exact Bool.false_ne_true)]; exact ⟨v, h, hk⟩
    · rw [hw] at hE; cases hE
  · rw [if_neg (by rw [hw]; exact Bool.false_ne_true)]; exact hk
theorem xOp2_putI {i j : Nat} {oi oj : Oper} {v : Value} (hj : ops[j]? = some oj) (hap : oi.apart ops oj = true)
    (hsi : ∀ cs b, oi.op ≠ .select cs b) (hsj : ∀ cs b, oj.op ≠ .select cs b) {K : Act → World → List (Nat × World) → Prop} {a : Act} {w : World} {σ : List (Nat × World)}
    (hy : YX2 L1 L2 S1 P ops W i oi v a σ) (h : xOp2I nF L1 L2 S1 P ops E W j K (a.put oi.dst v) w σ) :
    xOp2I nF L1 L2 S1 P ops E W j (fun a' w' σ' => YX2 L1 L2 S1 P ops W i oi v a' σ' ∧ K (a'.put oi.dst v) w' σ') a w σ := by
  obtain ⟨h1, h2, h3⟩ := Oper.apart_spec hap
  have keep : ∀ (u : Value) (σ' : List (Nat × World)), (∀ w', cls2 L1 L2 S1 W σ' i oi w' → cls2 L1 L2 S1 W σ i oi w') → YX2 L1 L2 S1 P ops W i oi v (a.put oj.dst u) σ' := fun u σ' hs =>
    hy.of_same (execOp_put oi hsi a oj.dst u h3) (wanted_put oi a oj.dst u h3) hs
  unfold xOp2I at *
  simp only [hj] at *
  rw [wanted_put oj a oi.dst v h1] at h
  split
  · rename_i hw
    rw [if_pos hw] at h
    split
    · rename_i he
      rw [if_pos he] at h
      unfold effAtI at h ⊢
      rw [execOp_put oj hsj a oi.dst v h1] at h
      exact effAt_monoI (P := P) (o := oj) (a := a) (w := w) (fun u w' ⟨hl, hk⟩ => ⟨hl, keep u _ (fun _ => cls2_cons), by rw [← Act.put_comm a v u h2]; exact hk⟩) h
    · rename_i he
      rw [if_neg he] at h
      obtain ⟨u, hu, hn⟩ := h
      refine ⟨u, fun w' hw' => ?_, keep u _ (fun _ h => h), by rw [← Act.put_comm a v u h2]; exact hn⟩
      have := hu w' hw'
      unfold valAt at *
      rwa [execOp_put oj hsj a oi.dst v h1] at this
  · rename_i hw
    rw [if_neg hw] at h
    exact ⟨keep _ _ (fun _ h => h), by rw [← Act.put_comm a v undef h2]; exact h⟩

theorem wpX2_firstI (T : Two L1 L2) {i : Nat} {oi : Oper} {v : Value} (hi : ops[i]? = some oi) (hsel : ∀ (j : Nat) (o : Oper) cs b, ops[j]? = some o → o.op ≠ .select cs b) :
    ∀ (fuel : Nat) (listed : Array Bool) (a : Act) (w : World) (σ : List (Nat × World)), Inv2 L1 L2 ops S1 W listed σ w →
      (∀ j oj, ops[j]? = some oj → j ≠ i → listed.getD j true = false → (∀ e ∈ oj.after, Region.binds .any e = true → e.on ≠ i) → oi.apart ops oj = true) →
      i ∈ Region.ready .any ops listed → (E.contains i = false ∨ Region.wanted oi (yielded ops a.tmps) = false) → YX2 L1 L2 S1 P ops W i oi v a σ →
      wpX2I nF L1 L2 S1 P ops E W Q fuel (listed.setIfInBounds i true) (a.put oi.dst v) w σ → wpX2I nF L1 L2 S1 P ops E W Q (fuel + 1) listed a w σ := by
  intro fuel
  induction fuel with
  | zero =>
    intro listed a w σ _ _ hr hE hy H
    refine ⟨fun h => (by rw [h] at hr; cases hr), fun j hj => ?_⟩
    by_cases hji : j = i
    · subst hji; exact hy.xOpI hi hE H
    · have := ready_mono hj hji
      rw [H.1] at this
      cases this
  | succ fuel ih =>
    intro listed a w σ hv hfree hr hE hy H
    refine ⟨fun h => (by rw [h] at hr; cases hr), fun j hj => ?_⟩
    by_cases hji : j = i
    · subst hji; exact hy.xOpI hi hE H
    · have h1 := H.2 j (ready_mono hj hji)
      obtain ⟨hjun, oj, hoj, hall⟩ := mem_ready.1 hj
      have hnot := ready_not hr hall
      have hap := hfree j oj hoj hji hjun hnot
      have h2 := xOp2_putI hoj hap (fun cs b => hsel i oi cs b hi) (fun cs b => hsel j oj cs b hoj) hy h1
      have hfree' : ∀ k ok, ops[k]? = some ok → k ≠ i → (listed.setIfInBounds j true).getD k true = false →
          (∀ e ∈ ok.after, Region.binds .any e = true → e.on ≠ i) → oi.apart ops ok = true := fun k ok hk hki hun hno => by
        refine hfree k ok hk hki ?_ hno
        by_cases hjk : j = k
        · subst hjk; exact hjun
        · rw [getD_set_ne true hjk] at hun; exact hun
      have hkeep : ∀ u, Region.wanted oi (yielded ops (a.put oj.dst u).tmps) = Region.wanted oi (yielded ops a.tmps) := fun u => wanted_put oi a oj.dst u (Oper.apart_spec hap).2.2
      have h3 : xOp2I nF L1 L2 S1 P ops E W j (fun a' w' σ' => (E.contains i = false ∨ Region.wanted oi (yielded ops a'.tmps) = false) ∧ YX2 L1 L2 S1 P ops W i oi v a' σ' ∧ wpX2I nF L1 L2 S1 P ops E W Q fuel ((listed.setIfInBounds i true).setIfInBounds j true) (a'.put oi.dst v) w' σ') a w σ := by
        unfold xOp2I at h2 ⊢
        simp only [hoj] at h2 ⊢
        split
        · rename_i hw
          rw [if_pos hw] at h2
          split
          · rename_i he
            rw [if_pos he] at h2
            exact effAt_monoI (fun u w' ⟨hl, hk⟩ => ⟨hl, by rw [hkeep u]; exact hE, hk⟩) h2
          · rename_i he
            rw [if_neg he] at h2
            obtain ⟨u, hu, hk⟩ := h2
            exact ⟨u, hu, by rw [hkeep u]; exact hE, hk⟩
        · rename_i hw
          rw [if_neg hw] at h2
          exact ⟨by rw [hkeep undef]; exact hE, h2⟩
      refine xOp2_monoI T hv hj (fun a' w' σ' hv' h4 => ih (listed.setIfInBounds j true) a' w' σ' hv' hfree' (ready_mono hr (Ne.symm hji)) h4.1 h4.2.1 ?_) h3
      rw [Array.setIfInBounds_comm _ _ hji]
      exact h4.2.2

theorem wpX2_firstEI (_ : Two L1 L2) {i : Nat} {oi : Oper} (hi : ops[i]? = some oi) (hE : E.contains i = true) (hc : chainB ops E = true) (hsel : ∀ (j : Nat) (o : Oper) cs b, ops[j]? = some o → o.op ≠ .select cs b) :
    ∀ (fuel : Nat) (listed : Array Bool) (a : Act) (w : World) (σ : List (Nat × World)), Inv2 L1 L2 ops S1 W listed σ w → DC ops listed →
      (∀ j oj, ops[j]? = some oj → j ≠ i → listed.getD j true = false → (∀ e ∈ oj.after, Region.binds .any e = true → e.on ≠ i) → oi.apart ops oj = true) →
      i ∈ Region.ready .any ops listed → Region.wanted oi (yielded ops a.tmps) = true →
      effAtI nF P oi a w (fun v w' => relE L1 L2 ops S1 oi w w' ∧ wpX2I nF L1 L2 S1 P ops E W Q fuel (listed.setIfInBounds i true) (a.put oi.dst v) w' ((i, w') :: σ)) → wpX2I nF L1 L2 S1 P ops E W Q (fuel + 1) listed a w σ := by
  intro fuel
  induction fuel with
  | zero =>
    intro listed a w σ _ _ _ hr hw H
    refine ⟨fun h => (by rw [h] at hr; cases hr), fun j hj => ?_⟩
    by_cases hji : j = i
    · subst hji; unfold xOp2I; simp only [hi]; rw [if_pos hw, if_pos hE]; exact H
    · obtain ⟨v, w', _, h0⟩ := effAt_someI H
      have := ready_mono hj hji
      rw [h0.1] at this
      cases this
  | succ fuel ih =>
    intro listed a w σ hv hdc hfree hr hw H
    refine ⟨fun h => (by rw [h] at hr; cases hr), fun j hj => ?_⟩
    by_cases hji : j = i
    · subst hji; unfold xOp2I; simp only [hi]; rw [if_pos hw, if_pos hE]; exact H
    · obtain ⟨hjun, oj, hoj, hall⟩ := mem_ready.1 hj
      have hnot := ready_not hr hall
      have hap := hfree j oj hoj hji hjun hnot
      obtain ⟨a1, a2, a3⟩ := Oper.apart_spec hap
      have hsi := fun cs b => hsel i oi cs b hi
      have hsj := fun cs b => hsel j oj cs b hoj
      have hjE : ¬ E.contains j = true := fun h => hji (chain_one hdc E hc j i (by simpa using h) (by simpa using hE) hj hr)
      have hnw : waitsOn oj i = false := by
        cases h : waitsOn oj i with
        | false => rfl
        | true => obtain ⟨e, he, hb, hon⟩ := waitsOn_spec h; exact absurd hon (hnot e he hb)
      have hfree' : ∀ k ok, ops[k]? = some ok → k ≠ i → (listed.setIfInBounds j true).getD k true = false →
          (∀ e ∈ ok.after, Region.binds .any e = true → e.on ≠ i) → oi.apart ops ok = true := fun k ok hk hki hun hno => by
        refine hfree k ok hk hki ?_ hno
        by_cases hjk : j = k
        · subst hjk; exact hjun
        · rw [getD_set_ne true hjk] at hun; exact hun
      have hr' := ready_mono hr (Ne.symm hji)
      have next : ∀ u, (∀ v w', wpX2I nF L1 L2 S1 P ops E W Q (fuel + 1) (listed.setIfInBounds i true) (a.put oi.dst v) w' ((i, w') :: σ) → wpX2I nF L1 L2 S1 P ops E W Q fuel ((listed.setIfInBounds i true).setIfInBounds j true) ((a.put oi.dst v).put oj.dst u) w' ((i, w') :: σ)) →
          wpX2I nF L1 L2 S1 P ops E W Q (fuel + 1) (listed.setIfInBounds j true) (a.put oj.dst u) w σ := fun u hn => by
        refine ih (listed.setIfInBounds j true) (a.put oj.dst u) w σ (hv.step hj) (hdc.add hj) hfree' hr' (by rw [wanted_put oi a oj.dst u a3]; exact hw) ?_
        have H2 := effAt_monoI (fun v w' ⟨hl, hk⟩ => (⟨hl, hn v w' hk⟩ : relE L1 L2 ops S1 oi w w' ∧ _)) H
        unfold effAtI at H2 ⊢
        rw [execOp_put oi hsi a oj.dst u a3]
        refine effAt_monoI (P := P) (o := oi) (a := a) (w := w) (fun v w' ⟨hl, hk⟩ => ⟨hl, ?_⟩) H2
        rw [Array.setIfInBounds_comm _ _ hji, ← Act.put_comm a v u a2]
        exact hk
      obtain ⟨v0, w0, hl0, H0⟩ := effAt_someI H
      have h1 := H0.2 j (ready_mono hj hji)
      unfold xOp2I at h1 ⊢
      simp only [hoj] at h1 ⊢
      rw [wanted_put oj a oi.dst v0 a1] at h1
      split
      · rename_i hwj
        rw [if_pos hwj, if_neg hjE] at h1
        obtain ⟨c, hc1, hc2⟩ := h1
        have hval : ∀ w', cls2 L1 L2 S1 W σ j oj w' → valAt P oj a w' c := fun w' hw' => by
          have := hc1 w' (cls2_cons_not hnw hw')
          unfold valAt at *
          rwa [execOp_put oj hsj a oi.dst v0 a1] at this
        refine ⟨c, hval, next c fun v w' hk => ?_⟩
        have h2 := hk.2 j (ready_mono hj hji)
        unfold xOp2I at h2
        simp only [hoj] at h2
        rw [wanted_put oj a oi.dst v a1, if_pos hwj, if_neg hjE] at h2
        obtain ⟨c', hc1', hc2'⟩ := h2
        have e : c' = c := by
          refine valAt_fun ?_ (hval w (hv.cls hj oj))
          have := hc1' w (cls2_cons_not hnw (hv.cls hj oj))
          unfold valAt at *
          rwa [execOp_put oj hsj a oi.dst v a1] at this
        subst e
        exact hc2'
      · rename_i hwj
        refine next undef fun v w' hk => ?_
        have h2 := hk.2 j (ready_mono hj hji)
        unfold xOp2I at h2
        simp only [hoj] at h2
        rw [wanted_put oj a oi.dst v a1, if_neg hwj] at h2
        exact h2

/-- The walk in the text's order. -/
def wpXTI (nF : Nat) (L1 L2 : World → World → Prop) (S1 : List Nat) (P : Program) (ops : Array Oper) (E : List Nat) (W : World) (Q : Exit → Act → World → Prop) : Nat → List Oper → Act → World → List (Nat × World) → Prop
  | _, [], a, w, _ => Q .normal a w
  | k, o :: rest, a, w, σ =>
    if Region.wanted o (yielded ops a.tmps) = true then
      (if E.contains k = true then effAtI nF P o a w (fun v w' => relE L1 L2 ops S1 o w w' ∧ wpXTI nF L1 L2 S1 P ops E W Q (k + 1) rest (a.put o.dst v) w' ((k, w') :: σ)) else ∃ v, (∀ w', cls2 L1 L2 S1 W σ k o w' → valAt P o a w' v) ∧ wpXTI nF L1 L2 S1 P ops E W Q (k + 1) rest (a.put o.dst v) w σ)
    else wpXTI nF L1 L2 S1 P ops E W Q (k + 1) rest (a.put o.dst undef) w σ

theorem wpX2_lexI (T : Two L1 L2) (hs : Region.noSelect ops = true) (hc : chainB ops E = true) : ∀ (l : List Oper) (k : Nat) (listed : Array Bool) (a : Act) (w : World) (σ : List (Nat × World)), Inv2 L1 L2 ops S1 W listed σ w → DC ops listed → (∀ j, l[j]? = ops[k + j]?) →
    Region.lexFrom .any ops l.length k listed = true → wpXTI nF L1 L2 S1 P ops E W Q k l a w σ → wpX2I nF L1 L2 S1 P ops E W Q l.length listed a w σ
  | [], _, _, _, _, _, _, _, _, hB, h => ⟨by simpa [Region.lexFrom] using hB, h⟩
  | o :: l, k, listed, a, w, σ, hv, hd, hl, hB, h => by
    have h0 : ops[k]? = some o := by simpa using (hl 0).symm
    simp only [List.length_cons, Region.lexFrom, Bool.and_eq_true] at hB
    obtain ⟨⟨hr, hf⟩, hB'⟩ := hB
    have hr' : k ∈ Region.ready .any ops listed := by simpa using hr
    have next : ∀ a' w' σ', Inv2 L1 L2 ops S1 W (listed.setIfInBounds k true) σ' w' → wpXTI nF L1 L2 S1 P ops E W Q (k + 1) l a' w' σ' → wpX2I nF L1 L2 S1 P ops E W Q l.length (listed.setIfInBounds k true) a' w' σ' := fun a' w' σ' hv' h' =>
      wpX2_lexI T hs hc l (k + 1) _ a' w' σ' hv' (hd.add hr') (fun j => by have := hl (j + 1); simpa [Nat.add_assoc, Nat.add_comm 1 j] using this) hB' h'
    unfold wpXTI at h
    split at h
    · rename_i hw
      split at h
      · rename_i hE
        exact wpX2_firstEI T h0 hE hc (Region.noSelect_spec hs) l.length listed a w σ hv hd (Region.free_spec h0 hf) hr' hw (effAt_monoI (fun v w' ⟨hl', hk⟩ => ⟨hl', next _ _ _ (hv.cons T h0 hr' hl') hk⟩) h)
      · rename_i hE
        obtain ⟨v, h1, h2⟩ := h
        exact wpX2_firstI T h0 (Region.noSelect_spec hs) l.length listed a w σ hv (Region.free_spec h0 hf) hr' (.inl (by simpa using hE)) (.inl ⟨hw, h1⟩) (next _ _ _ (hv.step hr') h2)
    · rename_i hw
      have hw' : Region.wanted o (yielded ops a.tmps) = false := by simpa using hw
      exact wpX2_firstI T h0 (Region.noSelect_spec hs) l.length listed a w σ hv (Region.free_spec h0 hf) hr' (.inr hw') (.inr ⟨hw', rfl⟩) (next _ _ _ (hv.step hr') h)

/-- Nothing turns; whatever turns. -/
theorem twoI : Two Lq (fun _ _ => True) := { r1 := Lq.refl, r2 := fun _ => trivial, t1 := fun h k => h.trans k, t2 := fun _ _ => trivial, le := fun _ => trivial }
/-- ONE WALK IN THE TEXT's ORDER: the effects that wait for all of S1 may turn whatever they will; the others turn nothing; what is not in S1 reads nothing. -/
theorem wpIn_region_lexI (S1 E : List Nat) {id : Nat} {a : Act} {w : World} {l : List Oper} (hm : P.follows .mixedOrders = true) (hB : Region.lexB .any l.toArray = true) (hc : chainB l.toArray E = true)
    (h : wpXTI nF Lq (fun _ _ => True) S1 P l.toArray E w.drew Q 0 l a w.drew []) : (Code.region id l.toArray true).wpIn Fence.wide nF P Q a w := by
  simp only [Region.lexB, Bool.and_eq_true] at hB
  refine wpIn_region_any hm ?_
  have hd : DC l.toArray (Array.replicate l.toArray.size false) := fun k o _ hl => by
    rw [Array.getD_eq_getD_getElem?, Array.getElem?_replicate] at hl
    split at hl <;> simp at hl
  have hI : Inv2 Lq (fun _ _ => True) l.toArray S1 w.drew (Array.replicate l.toArray.size false) [] w.drew := ⟨hd, ⟨trivial, by simp⟩, fun _ => ⟨Lq.refl _, by simp⟩⟩
  refine wpAny_of_X2I twoI (S1 := S1) (E := E) (W := w.drew) _ _ _ _ [] hI ?_
  have := wpX2_lexI (P := P) twoI (S1 := S1) (W := w.drew) (Q := Q) hB.1 hc l 0 (Array.replicate l.toArray.size false) a w.drew [] hI hd (by simp) (by simpa using hB.2) h
  simpa using this
theorem relE_some {o : Oper} {w w' : World} (h : Below w.heap.size w w') : relE Lq (fun _ _ => True) ops S1 o w w' := by
  unfold relE
  split
  · trivial
  · exact h
theorem relE_any {o : Oper} {w w' : World} (ho : waitsAll ops S1 o = true) : relE Lq (fun _ _ => True) ops S1 o w w' := by
  unfold relE
  rw [if_pos ho]
  trivial
/-- A world, whatever it is. -/
structure AnyW where
  w : World
instance : Inhabited AnyW := ⟨⟨default⟩⟩
theorem wpXT_nilI {k : Nat} {a : Act} {w : World} {σ : List (Nat × World)} (h : Q .normal a w) : wpXTI nF L1 L2 S1 P ops E W Q k [] a w σ := h
theorem wpXT_quietCI {k : Nat} {o : Oper} {rest : List Oper} {a : Act} {w : World} {σ : List (Nat × World)} (hE : E.contains k = false) (hp : plainOp o.op = true) (C : World → Prop) (h0 : ∀ w', cls2 L1 L2 S1 W σ k o w' → C w')
    (h : wpQuiet P ops C (fun a' => wpXTI nF L1 L2 S1 P ops E W Q (k + 1) rest a' w σ) [o] a) : wpXTI nF L1 L2 S1 P ops E W Q k (o :: rest) a w σ := by
  unfold wpXTI
  unfold wpQuiet at h
  split
  · rename_i hw
    rw [if_pos hw] at h
    rw [if_neg (by rw [hE]; exact Bool.false_ne_true)]
    obtain ⟨v, h1, h2⟩ := h
    refine ⟨v, fun w' hw' => ?_, h2⟩
    have := h1 w' (h0 w' hw')
    unfold Oper.quietAt at this
    unfold valAt
    have hne := fun f args w'' => plain_no_enter (P := P) hp (ρ := a.eval) (w := w') (w' := w'') (f := f) (args := args)
    generalize (execOp a.eval o).run P w' = r at *
    cases r with
    | ok n w1 =>
      cases n <;> simp only [Oper.quietUpon] at this
      case value u => obtain ⟨rfl, rfl⟩ := this; exact .inl rfl
      case skip => obtain ⟨rfl, rfl⟩ := this; exact .inr ⟨rfl, rfl⟩
      case enter f args => exact absurd rfl (hne f args w1)
    | halt x w1 => simp only [Oper.quietUpon] at this
  · rename_i hw
    rw [if_neg hw] at h
    exact h
/-- An operation of S1 that reads: in every world from where the region began, all there being as it was. -/
theorem wpXT_quiet1I {k : Nat} {o : Oper} {rest : List Oper} {a : Act} {w : World} {σ : List (Nat × World)} (hE : E.contains k = false) (hS : S1.contains k = true) (hp : plainOp o.op = true)
    (h : wpQuiet P ops (fun w' => ∃ p : Wd W, w' = p.w) (fun a' => wpXTI nF Lq (fun _ _ => True) S1 P ops E W Q (k + 1) rest a' w σ) [o] a) : wpXTI nF Lq (fun _ _ => True) S1 P ops E W Q k (o :: rest) a w σ :=
  wpXT_quietCI hE hp _ (fun w' hw' => ⟨⟨w', by have := hw'.1; unfold relC at this; rw [if_pos hS] at this; exact this⟩, rfl⟩) h
/-- Another one, that reads nothing. -/
theorem wpXT_quiet2I {k : Nat} {o : Oper} {rest : List Oper} {a : Act} {w : World} {σ : List (Nat × World)} (hE : E.contains k = false) (hp : plainOp o.op = true)
    (h : wpQuiet P ops (fun w' => ∃ p : AnyW, w' = p.w) (fun a' => wpXTI nF L1 L2 S1 P ops E W Q (k + 1) rest a' w σ) [o] a) : wpXTI nF L1 L2 S1 P ops E W Q k (o :: rest) a w σ :=
  wpXT_quietCI hE hp _ (fun w' _ => ⟨⟨w'⟩, rfl⟩) h
theorem wpXT_skipI {k : Nat} {o : Oper} {rest : List Oper} {a : Act} {w : World} {σ : List (Nat × World)} (hw : Region.wanted o (yielded ops a.tmps) = false) (h : wpXTI nF L1 L2 S1 P ops E W Q (k + 1) rest (a.put o.dst undef) w σ) : wpXTI nF L1 L2 S1 P ops E W Q k (o :: rest) a w σ := by
  unfold wpXTI
  rw [if_neg (by rw [hw]; exact Bool.false_ne_true)]
  exact h
/-- A call of a Go function that turns nothing. -/
theorem wpXT_callI {k : Nat} {o : Oper} {rest : List Oper} {a : Act} {w : World} {σ : List (Nat × World)} (hE : E.contains k = true) (hw : Region.wanted o (yielded ops a.tmps) = true) {f : FuncId} {xs : Array Operand} {ts : Array TypeId}
    (ho : o.op = .call { callee := .value (.func f), args := xs, argTypes := ts }) (hen : ∀ args w, (callFunc f args).run P w = .ok (.enter f args) w)
    (args : Array Value) (hargs : xs.toList.map a.eval = args.toList) (h : Calls P f args w fun e w' => ∃ v, e = .returned v ∧ Below w.heap.size w w' ∧ wpXTI nF Lq (fun _ _ => True) S1 P ops E W Q (k + 1) rest (a.put o.dst v) w' ((k, w') :: σ)) : wpXTI nF Lq (fun _ _ => True) S1 P ops E W Q k (o :: rest) a w σ := by
  unfold wpXTI
  rw [if_pos hw, if_pos hE]
  unfold effAtI
  have hargs : xs.map a.eval = args := Array.toList_inj.1 (by rw [Array.toList_map]; exact hargs)
  subst hargs
  have : (execOp a.eval o).run P w = .ok (.enter f (xs.map a.eval)) w := by
    unfold execOp
    simp [ho, resolve, invoke, Act.eval, Deferred.ofValue, hen]
  rw [this]
  exact Calls.mono h fun e w' ⟨v, he, hb, hk⟩ => ⟨v, he, relE_some hb, hk⟩
/-- What is handed on: whatever turns then, all of S1 being read. -/
theorem wpXT_yieldI {k : Nat} {o : Oper} {rest : List Oper} {a : Act} {w : World} {σ : List (Nat × World)} (hE : E.contains k = true) (hw : Region.wanted o (yielded ops a.tmps) = true) {c : Operand} {xs : Array Operand} {ts : Array TypeId} {lo : Nat}
    (ho : o.op = .call { callee := .value c, args := xs, argTypes := ts }) (hc : a.eval c = .func (.yield lo) #[] #[]) (hS : waitsAll ops S1 o = true)
    (args : Array Value) (hargs : xs.toList.map a.eval = args.toList) (h : YieldAt Fence.wide (nF - 1) P lo args w fun e w' => ∃ v, e = .returned v ∧ wpXTI nF Lq (fun _ _ => True) S1 P ops E W Q (k + 1) rest (a.put o.dst v) w' ((k, w') :: σ)) : wpXTI nF Lq (fun _ _ => True) S1 P ops E W Q k (o :: rest) a w σ := by
  unfold wpXTI
  rw [if_pos hw, if_pos hE]
  unfold effAtI
  have hargs : xs.map a.eval = args := Array.toList_inj.1 (by rw [Array.toList_map]; exact hargs)
  subst hargs
  obtain ⟨fn, tmps, assign, body, hy, hr⟩ := h
  have : (execOp a.eval o).run P w = (Instr.yield lo (xs.map a.eval)).run P w := by
    unfold execOp
    simp [ho, hc, resolve, invoke, Deferred.ofValue]
  rw [this, hy]
  exact RoundIn.mono hr fun e w' ⟨v, he, hk⟩ => ⟨v, he, relE_any hS, hk⟩
/-- An operation that makes or turns memory itself. -/
theorem wpXT_effI {k : Nat} {o : Oper} {rest : List Oper} {a : Act} {w : World} {σ : List (Nat × World)} (hE : E.contains k = true) (hw : Region.wanted o (yielded ops a.tmps) = true) (v : Value) (w' : World)
    (hrun : (execOp a.eval o).run P w = .ok (.value v) w') (hl : relE L1 L2 ops S1 o w w') (h : wpXTI nF L1 L2 S1 P ops E W Q (k + 1) rest (a.put o.dst v) w' ((k, w') :: σ)) : wpXTI nF L1 L2 S1 P ops E W Q k (o :: rest) a w σ := by
  unfold wpXTI
  rw [if_pos hw, if_pos hE]
  unfold effAtI
  rw [hrun]
  exact ⟨hl, h⟩
theorem wpXT_storeI {k : Nat} {o : Oper} {rest : List Oper} {a : Act} {w : World} {σ : List (Nat × World)} (hE : E.contains k = true) (hw : Region.wanted o (yielded ops a.tmps) = true) (w' : World)
    (hrun : (execOp a.eval o).run P w = .ok .skip w') (hl : relE L1 L2 ops S1 o w w') (h : wpXTI nF L1 L2 S1 P ops E W Q (k + 1) rest (a.put o.dst undef) w' ((k, w') :: σ)) : wpXTI nF L1 L2 S1 P ops E W Q k (o :: rest) a w σ := by
  unfold wpXTI
  rw [if_pos hw, if_pos hE]
  unfold effAtI
  rw [hrun]
  exact ⟨hl, h⟩
attribute [irreducible] wpXTI
end
end Go.Proofs.Ytccihllcohnnnaa
