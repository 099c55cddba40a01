/-
  The document's checkpoints: Same, walked. (written by wip/gen/ref16.py)
  Two aggregates laid one behind the other; for every program.
  A slice of two links, written out.
  The same as XLex where the LAST operations may turn what others have read: S1: the operations that read it: each effect that does not wait for all of them satisfies L1, the others L2 (L1 is the stronger one); the operations of S1 are asked in worlds behind L1 alone; for every program.
-/
import Derived.Test.YtlhnjaeocoafnaaQ14
import Derived.Deep.Cut
import Derived.Deep.CutRange
import Derived.Deep.RegionLaw
import Derived.Test.YtlhnjaeocoafnaaQ02
import Derived.Test.YtlhnjaeocoafnaaQ05
namespace Go.Proofs.Ytlhnjaeocoafnaa
open Go.RowKit
set_option maxRecDepth 100000

set_option maxRecDepth 100000 in
set_option maxHeartbeats 8000000 in
theorem ref16Same_n (p q : Option Addr) (n m cp cq : Nat) (a b : List Ck) (w : World) (h : SlE Ecc w (.slice p n cp) a) (h' : SlE Ecc w (.slice q m cq) b) (ha : a.length = n) (hb : b.length = m) (hn : n ≤ 1000) :
    Calls Try.prog 11 #[.slice p n cp, .slice q m cq] w fun e w' => e = .returned (.bool (decide (a = b))) ∧ Below w.heap.size w w' := by
  have HS := Lib.hid h
  have HS2 := Lib.hid h'
  have HA := Lib.hid ha
  have HB := Lib.hid hb
  have HN := Lib.hid hn
  obtain ⟨r, hr⟩ : ∃ r, r = decide (a = b) := ⟨_, rfl⟩
  rw [← hr]
  have HR := Lib.hid hr
  clear h h' ha hb hn hr
  by_cases hnm : n = m
  · subst hnm
    have e0 : ((n : Int) != (n : Int)) = false := by simp
    go_enter Try.func11, Try.ntmps11
    go_wp2_with fail
    clear e0
    go_loopw [5] (fun i wr => ∃ j : Nat, j ≤ n ∧ i = .int .i64 (j : Int) ∧ (∀ x, x < j → ckAt a x = ckAt b x) ∧ Below w.heap.size w wr) (fun i _ => n - (intOf i).toNat)
    case atStart => exact ⟨0, Nat.zero_le _, rfl, fun x hx => absurd hx (Nat.not_lt_zero _), Below.refl _ _⟩
    case round =>
      obtain ⟨j, hj, rfl, hx, hg⟩ := hrel
      have HX := Lib.hid hx
      have HG := Lib.hid hg
      clear hx hg
      by_cases hlt : j < n
      · have i0 : (0 : Int) ≤ (j : Int) := by omega
        have i1 : (j : Int) < (n : Int) := by omega
        have u1 : (j : Int) + 1 < 10000 := by have := HN.out; omega
        have d0 : decide ((j : Int) < (n : Int)) = true := decide_eq_true i1
        have d0' : decide (j < n) = true := decide_eq_true hlt
        have HLT := Lib.hid hlt
        obtain ⟨b1, o1, rfl, _, x1⟩ := ccs_ptr (slE_keep HG.out HS.out) (by have := HA.out; omega)
        obtain ⟨b2, o2, rfl, _, x2⟩ := ccs_ptr (slE_keep HG.out HS2.out) (by have := HB.out; omega)
        have y1 := ccs_ld x1 (i := j) (by have := HA.out; omega)
        have y2 := ccs_ld x2 (i := j) (by have := HB.out; omega)
        clear x1 x2 hlt
        by_cases he : ckAt a j = ckAt b j
        · have HE := Lib.hid he
          rw [he] at y1
          clear he
          go_wp2_with fail
          go_quiet (fail)
          go_wp2_with fail
          go_roundw
          case rel => exact ⟨j + 1, HLT.out, by go_num, (fun x hx => by
            rcases Nat.lt_succ_iff_lt_or_eq.1 hx with h | rfl
            · exact HX.out x h
            · exact HE.out), belowD HG.out _⟩
          case measure => simp [intOf]; have := HLT.out; omega
        · have hF : Hid (r = false) := by
            show r = false
            rw [HR.out, decide_eq_false_iff_not]
            intro e; exact he (by rw [e])
          have t1 : decide (ckAt a j = ckAt b j) = false := decide_eq_false he
          generalize ckAt a j = La at *
          generalize ckAt b j = Lb at *
          clear he
          go_wp2_with fail
          go_quiet (fail)
          go_wp2_with fail
          go_ret
          exact ⟨by rw [hF.out]; first | done | rfl, belowD HG.out _⟩
      · obtain rfl : j = n := by omega
        have d0 : decide ((j : Int) < (j : Int)) = false := decide_eq_false (Int.lt_irrefl _)
        have d0' : decide (j < j) = false := decide_eq_false (Nat.lt_irrefl _)
        have hF : Hid (r = true) := by
          show r = true
          rw [HR.out, decide_eq_true_iff]
          exact ck_extL (by rw [HA.out, HB.out]) fun i hi => HX.out i (by rw [← HB.out]; exact hi)
        clear hlt
        go_wp2_with fail
        go_ret
        exact ⟨by rw [hF.out]; first | done | rfl, HG.out⟩
  · have e0 : ((n : Int) != (m : Int)) = true := by rw [bne_iff_ne]; omega
    have hF : Hid (r = false) := by
      show r = false
      rw [HR.out, decide_eq_false_iff_not]
      intro e; apply hnm; rw [← HA.out, ← HB.out, e]
    clear hnm
    go_enter Try.func11, Try.ntmps11
    go_wp2_with fail
    go_ret
    exact ⟨by rw [hF.out]; first | done | rfl, Below.refl _ _⟩
theorem ref16Same (u v : Value) (a b : List Ck) (w : World) (h : SlE Ecc w u a) (h' : SlE Ecc w v b) (hn : a.length ≤ 1000) :
    Calls Try.prog 11 #[u, v] w fun e w' => e = .returned (.bool (decide (a = b))) ∧ Below w.heap.size w w' := by
  have k := h
  have k' := h'
  obtain ⟨p, cp, rfl, _⟩ := slE_shape h
  obtain ⟨q, cq, rfl, _⟩ := slE_shape h'
  exact ref16Same_n p q _ _ cp cq a b w k k' rfl rfl hn
theorem enters_ref16Same : ∀ args w, (callFunc 11 args).run Try.prog w = .ok (.enter 11 args) w := entersE Try.func11 (by kernel_rfl) (by kernel_rfl)
end Go.Proofs.Ytlhnjaeocoafnaa
namespace Go.Proofs.Ytlhnjaeocoafnaa
open Go.RowKit
set_option maxRecDepth 100000
theorem foldl_zip_at (z c : Array Value) (o : Nat) (h : o + c.size ≤ z.size) (j : Nat) : (c.zipIdx.foldl (fun cs (p : Value × Nat) => cs.setIfInBounds (o + p.2) p.1) z)[j]? = if o ≤ j ∧ j < o + c.size then c[j - o]? else z[j]? := by
  have e : c.zipIdx.foldl (fun cs (p : Value × Nat) => cs.setIfInBounds (o + p.2) p.1) z = ((c.toList.zipIdx o).foldl (fun c p => c.setIfInBounds p.2 p.1) z) := by
    rw [← Array.foldl_toList, Array.toList_zipIdx, List.zipIdx_eq_map_add (l := c.toList) (i := o), List.foldl_map]
  rw [e, foldl_set]
  by_cases hj : o ≤ j ∧ j < o + c.size
  · rw [if_pos (by simp; omega), if_pos hj]; simp
  · rw [if_neg (by simp; omega), if_neg hj]
theorem foldl_size (c : Array Value) (o : Nat) (z : Array Value) : (c.zipIdx.foldl (fun cs (p : Value × Nat) => cs.setIfInBounds (o + p.2) p.1) z).size = z.size := by
  rw [← Array.foldl_toList]
  generalize c.zipIdx.toList = l
  induction l generalizing z with
  | nil => rfl
  | cons a l ih => rw [List.foldl_cons, ih]; simp
theorem fold2 (n : Nat) (z c d : Array Value) (hz : z.size = 2 * n) (hc : c.size = n) (hd : d.size = n) :
    d.zipIdx.foldl (fun cs (p : Value × Nat) => cs.setIfInBounds (n + p.2) p.1) (c.zipIdx.foldl (fun cs (p : Value × Nat) => cs.setIfInBounds (0 + p.2) p.1) z) = c ++ d := by
  apply Array.ext_getElem?
  intro j
  rw [foldl_zip_at _ d n (by rw [foldl_size]; omega), foldl_zip_at _ c 0 (by omega), Array.getElem?_append]
  by_cases h1 : n ≤ j ∧ j < n + d.size
  · rw [if_pos h1, if_neg (by omega), hc]
  · rw [if_neg h1]
    by_cases h2 : j < c.size
    · rw [if_pos (by omega), if_pos h2, Nat.sub_zero]
    · rw [if_neg (by omega), if_neg h2, Array.getElem?_eq_none (by omega), Array.getElem?_eq_none (by omega)]
theorem okA_agg {x : Value} {n : Nat} (hx : okA n x = true) : ∃ c, x = .agg c ∧ c.size = n := by
  unfold okA at hx
  split at hx
  · rename_i c
    rw [Bool.and_eq_true, beq_iff_eq] at hx
    exact ⟨c, rfl, hx.1⟩
  · cases hx
end Go.Proofs.Ytlhnjaeocoafnaa
namespace Go.Proofs.Ytlhnjaeocoafnaa
open Go.RowKit
set_option maxRecDepth 100000
@[go_sem ↓] theorem buildSlice2_lk (ρ : Operand → Value) (dst : Option Tmp) (x y : Operand) (ty : TypeId) (pos : String) (after : Array Edge) (guard : Option (Nat × Bool)) (w : World) (hx : okA 67 (ρ x) = true) (hy : okA 67 (ρ y) = true) :
    (execOp ρ { dst, op := .buildSlice 25 2 #[(0, x), (1, y)], type := ty, pos, after, guard }).run Try.prog w = .ok (.value (.slice (some ⟨w.heap.size, 0, none⟩) 2 2)) (w.alloc (.cells (cellsA (ρ x) ++ cellsA (ρ y)) 63)) := by
  obtain ⟨c, hc, hn⟩ := okA_agg hx
  obtain ⟨d, hd, hm⟩ := okA_agg hy
  have hp : (2 * 67 > 2 ^ 24) = False := by simp
  have h0 : (2 * 67 = 0) = False := by simp
  unfold execOp
  simp only [Instr.buildSlice, Sem.run_bind, run_underlying Try.underlying25, Result.andThen_ok, Try.sizeOf63, hp, h0, if_false, zero_lk, Value.cells]
  simp only [List.map_toArray, List.map_cons, List.map_nil, hc, hd, Instr.fill, Value.cells, hn, hm]
  simp only [Sem.run_pure, Result.andThen_ok]
  generalize hz : (Array.range (2 * 67)).map (fun x => (lk zlk)[x % (lk zlk).size]!) = z
  have hzs : z.size = 2 * 67 := by rw [← hz]; simp
  have h1 := foldl_size c 0 z
  have h2 := fold2 67 z c d hzs hn hm
  simp only [Nat.zero_mul, Nat.one_mul, h1, h2, hzs]
  simp [cellsA]
  rfl
theorem lk_lit2 (w : World) (x y : Lk) (b : Nat) (hb : b = w.heap.size) : SlE Elk (w.alloc (.cells (lk x ++ lk y) 63)) (.slice (some ⟨b, 0, none⟩) 2 2) [x, y] :=
  slE_lit w _ 2 _ _ b rfl hb (by simp [cellsE, Elk, lk_list])
end Go.Proofs.Ytlhnjaeocoafnaa
namespace Go.Proofs.Ytlhnjaeocoafnaa
open Go.RowKit
set_option maxRecDepth 100000
section
variable {P : Program} {ops : Array Oper} {E S1 : List Nat} {L1 L2 : World → World → Prop} {W : World} {Q : Exit → Act → World → Prop}

/-- The operation waits for operation number k, be it through others. -/
def waitsF (ops : Array Oper) : Nat → Oper → Nat → Bool
  | 0, o, k => waitsOn o k
  | f + 1, o, k => waitsOn o k || o.after.any fun e => Region.binds .any e && ((ops[e.on]?).map fun o' => waitsF ops f o' k).getD false
theorem waitsF_spec {listed : Array Bool} (hd : DC ops listed) {k : Nat} : ∀ (f : Nat) (o : Oper), (∀ e ∈ o.after, Region.binds .any e = true → listed.getD e.on false = true) → waitsF ops f o k = true → listed.getD k false = true
  | 0, o, hall, h => by
    obtain ⟨e, he, hb, hon⟩ := waitsOn_spec h
    rw [← hon]; exact hall e he hb
  | f + 1, o, hall, h => by
    unfold waitsF at h
    rw [Bool.or_eq_true] at h
    rcases h with h | h
    · obtain ⟨e, he, hb, hon⟩ := waitsOn_spec h
      rw [← hon]; exact hall e he hb
    · rw [Array.any_eq_true] at h
      obtain ⟨j, hj, h⟩ := h
      rw [Bool.and_eq_true] at h
      obtain ⟨hb, h⟩ := h
      have hl := hall _ (Array.getElem_mem hj) hb
      cases ho : ops[(o.after[j]).on]? with
      | none => rw [ho] at h; simp at h
      | some o' =>
        rw [ho] at h
        exact waitsF_spec hd f o' (fun e he hb => hd _ o' ho hl e he hb) (by simpa using h)
def waitsAll (ops : Array Oper) (S1 : List Nat) (o : Oper) : Bool := S1.all fun k => waitsF ops 8 o k
/-- What an effect must keep. -/
def relE (L1 L2 : World → World → Prop) (ops : Array Oper) (S1 : List Nat) (o : Oper) (a b : World) : Prop := if waitsAll ops S1 o = true then L2 a b else L1 a b
/-- What an operation that reads may count on. -/
def relC (L1 L2 : World → World → Prop) (S1 : List Nat) (i : Nat) (a b : World) : Prop := if S1.contains i = true then L1 a b else L2 a b
/-- Some of S1 has not come up. -/
def pend (S1 : List Nat) (listed : Array Bool) : Bool := S1.any fun k => !listed.getD k true
theorem pend_set {listed : Array Bool} {j : Nat} (h : pend S1 (listed.setIfInBounds j true) = true) : ∃ k ∈ S1, listed.getD k true = false ∧ k ≠ j := by
  unfold pend at h
  rw [List.any_eq_true] at h
  obtain ⟨k, hk, h⟩ := h
  refine ⟨k, hk, ?_⟩
  by_cases e : j = k
  · subst e
    exfalso
    rcases Nat.lt_or_ge j listed.size with h' | h'
    · simp [h'] at h
    · rw [Array.setIfInBounds_eq_of_size_le h', Array.getD_eq_getD_getElem?, Array.getElem?_eq_none h'] at h
      cases h
  · rw [getD_set_ne true e] at h
    exact ⟨by simpa using h, fun e2 => e e2.symm⟩
theorem pend_old {listed : Array Bool} {j : Nat} (h : pend S1 (listed.setIfInBounds j true) = true) : pend S1 listed = true := by
  obtain ⟨k, hk, h, _⟩ := pend_set h
  unfold pend
  rw [List.any_eq_true]
  exact ⟨k, hk, by rw [h]; rfl⟩
/-- The two relations. -/
structure Two (L1 L2 : World → World → Prop) : Prop where
  r1 : ∀ w, L1 w w
  r2 : ∀ w, L2 w w
  t1 : ∀ {a b c : World}, L1 a b → L1 b c → L1 a c
  t2 : ∀ {a b c : World}, L2 a b → L2 b c → L2 a c
  le : ∀ {a b : World}, L1 a b → L2 a b
theorem Two.e {o : Oper} {a b : World} (T : Two L1 L2) (h : relE L1 L2 ops S1 o a b) : L2 a b := by
  unfold relE at h
  split at h
  · exact h
  · exact T.le h
def cls2 (L1 L2 : World → World → Prop) (S1 : List Nat) (W : World) (σ : List (Nat × World)) (i : Nat) (o : Oper) (w' : World) : Prop := relC L1 L2 S1 i W w' ∧ ∀ p ∈ σ, waitsOn o p.1 = true → relC L1 L2 S1 i p.2 w'
def Inv2 (L1 L2 : World → World → Prop) (ops : Array Oper) (S1 : List Nat) (W : World) (listed : Array Bool) (σ : List (Nat × World)) (w : World) : Prop := DC ops listed ∧ (L2 W w ∧ ∀ p ∈ σ, L2 p.2 w) ∧ (pend S1 listed = true → L1 W w ∧ ∀ p ∈ σ, L1 p.2 w)
theorem Inv2.cls {listed : Array Bool} {σ : List (Nat × World)} {w : World} (h : Inv2 L1 L2 ops S1 W listed σ w) {i : Nat} (hi : i ∈ Region.ready .any ops listed) (o : Oper) : cls2 L1 L2 S1 W σ i o w := by
  unfold cls2 relC
  by_cases hc : S1.contains i = true
  · have hp : pend S1 listed = true := by
      unfold pend
      rw [List.any_eq_true]
      exact ⟨i, by simpa using hc, by rw [(mem_ready.1 hi).1]; rfl⟩
    obtain ⟨h1, h2⟩ := h.2.2 hp
    simp only [hc, if_true]
    exact ⟨h1, fun p hp _ => h2 p hp⟩
  · simp only [hc]
    exact ⟨h.2.1.1, fun p hp _ => h.2.1.2 p hp⟩
theorem Inv2.step {listed : Array Bool} {σ : List (Nat × World)} {w : World} (h : Inv2 L1 L2 ops S1 W listed σ w) {j : Nat} (hj : j ∈ Region.ready .any ops listed) : Inv2 L1 L2 ops S1 W (listed.setIfInBounds j true) σ w := ⟨h.1.add hj, h.2.1, fun hp => h.2.2 (pend_old hp)⟩
theorem Inv2.cons (T : Two L1 L2) {listed : Array Bool} {σ : List (Nat × World)} {w w' : World} (h : Inv2 L1 L2 ops S1 W listed σ w) {j : Nat} {oj : Oper} (ho : ops[j]? = some oj) (hj : j ∈ Region.ready .any ops listed) (hl : relE L1 L2 ops S1 oj w w') : Inv2 L1 L2 ops S1 W (listed.setIfInBounds j true) ((j, w') :: σ) w' := by
  refine ⟨h.1.add hj, ⟨T.t2 h.2.1.1 (T.e hl), fun p hp => ?_⟩, fun hp => ?_⟩
  · rcases List.mem_cons.1 hp with rfl | hp
    · exact T.r2 _
    · exact T.t2 (h.2.1.2 p hp) (T.e hl)
  · obtain ⟨k, hk, hkl, _⟩ := pend_set hp
    have hn : waitsAll ops S1 oj = false := by
      rw [← Bool.not_eq_true]
      intro hw
      have h0 := List.all_eq_true.1 hw k hk
      obtain ⟨_, o', ho', hall⟩ := mem_ready.1 hj
      rw [ho] at ho'
      have e1 := Option.some.inj ho'
      subst e1
      have h1 := waitsF_spec h.1 8 oj hall h0
      rcases Nat.lt_or_ge k listed.size with h' | h'
      · simp [h'] at h1 hkl; rw [hkl] at h1; cases h1
      · simp [Array.getElem?_eq_none h'] at h1
    unfold relE at hl
    rw [hn, if_neg Bool.false_ne_true] at hl
    obtain ⟨h1, h2⟩ := h.2.2 (pend_old hp)
    refine ⟨T.t1 h1 hl, fun p hp => ?_⟩
    rcases List.mem_cons.1 hp with rfl | hp
    · exact T.r1 _
    · exact T.t1 (h2 p hp) hl

/-- Operation number i comes up. -/
def xOp2 (L1 L2 : World → World → Prop) (S1 : List Nat) (P : Program) (ops : Array Oper) (E : List Nat) (W : World) (i : Nat) (K : Act → World → List (Nat × World) → Prop) (a : Act) (w : World) (σ : List (Nat × World)) : Prop :=
  match ops[i]? with
  | none => K a w σ
  | some o =>
    if Region.wanted o (yielded ops a.tmps) = true then
      (if E.contains i = true then effAt P o a w (fun v w' => relE L1 L2 ops S1 o w w' ∧ K (a.put o.dst v) w' ((i, w') :: σ)) else ∃ v, (∀ w', cls2 L1 L2 S1 W σ i o w' → valAt P o a w' v) ∧ K (a.put o.dst v) w σ)
    else K (a.put o.dst undef) w σ
theorem xOp2_mono (T : Two L1 L2) {listed : Array Bool} {i : Nat} {K K' : Act → World → List (Nat × World) → Prop} {a : Act} {w : World} {σ : List (Nat × World)} (hi : Inv2 L1 L2 ops S1 W listed σ w) (hr : i ∈ Region.ready .any ops listed) (h : ∀ a' w' σ', Inv2 L1 L2 ops S1 W (listed.setIfInBounds i true) σ' w' → K a' w' σ' → K' a' w' σ') (hh : xOp2 L1 L2 S1 P ops E W i K a w σ) : xOp2 L1 L2 S1 P ops E W i K' a w σ := by
  unfold xOp2 at *
  split
  · exact h _ _ _ (hi.step hr) (by simpa [*] using hh)
  · rename_i o ho
    simp only [ho] at hh
    split
    · rename_i hw
      rw [if_pos hw] at hh
      split
      · rename_i he
        rw [if_pos he] at hh
        exact effAt_mono (fun v w' ⟨hl, hk⟩ => ⟨hl, h _ _ _ (hi.cons T ho hr hl) hk⟩) hh
      · rename_i he
        rw [if_neg he] at hh
        obtain ⟨v, h1, h2⟩ := hh
        exact ⟨v, h1, h _ _ _ (hi.step hr) h2⟩
    · rename_i hw
      rw [if_neg hw] at hh
      exact h _ _ _ (hi.step hr) hh

/-- Whatever order is picked from here on. -/
def wpX2 (L1 L2 : World → World → Prop) (S1 : List Nat) (P : Program) (ops : Array Oper) (E : List Nat) (W : World) (Q : Exit → Act → World → Prop) : Nat → Array Bool → Act → World → List (Nat × World) → Prop
  | 0, listed, a, w, _ => Region.ready .any ops listed = [] ∧ Q .normal a w
  | fuel + 1, listed, a, w, σ =>
    (Region.ready .any ops listed = [] → Q .normal a w) ∧
    ∀ i ∈ Region.ready .any ops listed, xOp2 L1 L2 S1 P ops E W i (fun a' w' σ' => wpX2 L1 L2 S1 P ops E W Q fuel (listed.setIfInBounds i true) a' w' σ') a w σ

theorem wpAny_of_X2 (T : Two L1 L2) : ∀ (fuel : Nat) (listed : Array Bool) (a : Act) (w : World) (σ : List (Nat × World)), Inv2 L1 L2 ops S1 W listed σ w → wpX2 L1 L2 S1 P ops E W Q fuel listed a w σ → wpAny P .any ops Q fuel listed a w
  | 0, _, _, _, _, _, h => h
  | fuel + 1, listed, a, w, σ, hi, h => ⟨h.1, fun i hm => by
    have := h.2 i hm
    unfold xOp2 at this
    unfold wpOp
    split
    · rename_i ho
      simp only [ho] at this
      exact wpAny_of_X2 T fuel _ _ _ _ (hi.step hm) this
    · rename_i o ho
      simp only [ho] at this
      split
      · rename_i hw
        rw [if_pos hw] at this
        split at this
        · exact .inl (wp_of_eff (fun v w' ⟨hl, hk⟩ => wpAny_of_X2 T fuel _ _ _ _ (hi.cons T ho hm hl) hk) this)
        · obtain ⟨v, h1, h2⟩ := this
          refine .inl (wp_of_eff (K := fun u w' => u = v ∧ w' = w) (fun u w' ⟨e1, e2⟩ => by subst e1 e2; exact wpAny_of_X2 T fuel _ _ _ _ (hi.step hm) h2) ?_)
          have hv := h1 w (hi.cls hm o)
          unfold valAt at hv
          unfold effAt
          rcases hv with e1 | ⟨e1, e2⟩
          · rw [e1]; exact ⟨rfl, rfl⟩
          · rw [e1, e2]; exact ⟨rfl, rfl⟩
      · rename_i hw
        rw [if_neg hw] at this
        exact wpAny_of_X2 T fuel _ _ _ _ (hi.step hm) this⟩

/-- Operation oi, which reads, leaves v in its temporary, in every world in which it may come up. -/
def YX2 (L1 L2 : World → World → Prop) (S1 : List Nat) (P : Program) (ops : Array Oper) (W : World) (i : Nat) (oi : Oper) (v : Value) (a : Act) (σ : List (Nat × World)) : Prop :=
  (Region.wanted oi (yielded ops a.tmps) = true ∧ ∀ w', cls2 L1 L2 S1 W σ i oi w' → valAt P oi a w' v) ∨ (Region.wanted oi (yielded ops a.tmps) = false ∧ v = undef)
theorem YX2.xOp {i : Nat} {oi : Oper} {v : Value} {a : Act} {w : World} {σ : List (Nat × World)} (ho : ops[i]? = some oi) (hE : E.contains i = false ∨ Region.wanted oi (yielded ops a.tmps) = false) (h : YX2 L1 L2 S1 P ops W i oi v a σ) {K : Act → World → List (Nat × World) → Prop} (hk : K (a.put oi.dst v) w σ) : xOp2 L1 L2 S1 P ops E W i K a w σ := by
  unfold xOp2
  simp only [ho]
  rcases h with ⟨hw, h⟩ | ⟨hw, rfl⟩
  · rw [if_pos hw]
    rcases hE with hE | hE
    · rw [if_neg (by rw [hE]; exact Bool.false_ne_true)]; exact ⟨v, h, hk⟩
    · rw [hw] at hE; cases hE
  · rw [if_neg (by rw [hw]; exact Bool.false_ne_true)]; exact hk
theorem YX2.of_same {i : Nat} {oi : Oper} {v : Value} {a a' : Act} {σ σ' : List (Nat × World)} (hy : YX2 L1 L2 S1 P ops W i oi v a σ) (he : execOp a'.eval oi = execOp a.eval oi)
    (hw : Region.wanted oi (yielded ops a'.tmps) = Region.wanted oi (yielded ops a.tmps)) (hs : ∀ w', cls2 L1 L2 S1 W σ' i oi w' → cls2 L1 L2 S1 W σ i oi w') : YX2 L1 L2 S1 P ops W i oi v a' σ' := by
  unfold YX2 valAt at *
  rw [he, hw]
  exact hy.imp (fun ⟨h1, h2⟩ => ⟨h1, fun w' h => h2 w' (hs w' h)⟩) id
theorem cls2_cons {σ : List (Nat × World)} {i : Nat} {o : Oper} {p : Nat × World} {w' : World} (h : cls2 L1 L2 S1 W (p :: σ) i o w') : cls2 L1 L2 S1 W σ i o w' := ⟨h.1, fun q hq hw => h.2 q (List.mem_cons_of_mem _ hq) hw⟩
theorem cls2_cons_not {σ : List (Nat × World)} {i : Nat} {o : Oper} {p : Nat × World} {w' : World} (hn : waitsOn o p.1 = false) (h : cls2 L1 L2 S1 W σ i o w') : cls2 L1 L2 S1 W (p :: σ) i o w' := by
  refine ⟨h.1, fun q hq hw => ?_⟩
  rcases List.mem_cons.1 hq with rfl | hq
  · rw [hn] at hw; cases hw
  · exact h.2 q hq hw

theorem xOp2_put {i j : Nat} {oi oj : Oper} {v : Value} (hj : ops[j]? = some oj) (hap : oi.apart ops oj = true)
    (hsi : ∀ cs b, oi.op ≠ .select cs b) (hsj : ∀ cs b, oj.op ≠ .select cs b) {K : Act → World → List (Nat × World) → Prop} {a : Act} {w : World} {σ : List (Nat × World)}
    (hy : YX2 L1 L2 S1 P ops W i oi v a σ) (h : xOp2 L1 L2 S1 P ops E W j K (a.put oi.dst v) w σ) :
    xOp2 L1 L2 S1 P ops E W j (fun a' w' σ' => YX2 L1 L2 S1 P ops W i oi v a' σ' ∧ K (a'.put oi.dst v) w' σ') a w σ := by
  obtain ⟨h1, h2, h3⟩ := Oper.apart_spec hap
  have keep : ∀ (u : Value) (σ' : List (Nat × World)), (∀ w', cls2 L1 L2 S1 W σ' i oi w' → cls2 L1 L2 S1 W σ i oi w') → YX2 L1 L2 S1 P ops W i oi v (a.put oj.dst u) σ' := fun u σ' hs =>
    hy.of_same (execOp_put oi hsi a oj.dst u h3) (wanted_put oi a oj.dst u h3) hs
  unfold xOp2 at *
  simp only [hj] at *
  rw [wanted_put oj a oi.dst v h1] at h
  split
  · rename_i hw
    rw [if_pos hw] at h
    split
    · rename_i he
      rw [if_pos he] at h
      unfold effAt at h ⊢
      rw [execOp_put oj hsj a oi.dst v h1] at h
      exact effAt_mono (P := P) (o := oj) (a := a) (w := w) (fun u w' ⟨hl, hk⟩ => ⟨hl, keep u _ (fun _ => cls2_cons), by rw [← Act.put_comm a v u h2]; exact hk⟩) h
    · rename_i he
      rw [if_neg he] at h
      obtain ⟨u, hu, hn⟩ := h
      refine ⟨u, fun w' hw' => ?_, keep u _ (fun _ h => h), by rw [← Act.put_comm a v u h2]; exact hn⟩
      have := hu w' hw'
      unfold valAt at *
      rwa [execOp_put oj hsj a oi.dst v h1] at this
  · rename_i hw
    rw [if_neg hw] at h
    exact ⟨keep _ _ (fun _ h => h), by rw [← Act.put_comm a v undef h2]; exact h⟩

theorem wpX2_first (T : Two L1 L2) {i : Nat} {oi : Oper} {v : Value} (hi : ops[i]? = some oi) (hsel : ∀ (j : Nat) (o : Oper) cs b, ops[j]? = some o → o.op ≠ .select cs b) :
    ∀ (fuel : Nat) (listed : Array Bool) (a : Act) (w : World) (σ : List (Nat × World)), Inv2 L1 L2 ops S1 W listed σ w →
      (∀ j oj, ops[j]? = some oj → j ≠ i → listed.getD j true = false → (∀ e ∈ oj.after, Region.binds .any e = true → e.on ≠ i) → oi.apart ops oj = true) →
      i ∈ Region.ready .any ops listed → (E.contains i = false ∨ Region.wanted oi (yielded ops a.tmps) = false) → YX2 L1 L2 S1 P ops W i oi v a σ →
      wpX2 L1 L2 S1 P ops E W Q fuel (listed.setIfInBounds i true) (a.put oi.dst v) w σ → wpX2 L1 L2 S1 P ops E W Q (fuel + 1) listed a w σ := by
  intro fuel
  induction fuel with
  | zero =>
    intro listed a w σ _ _ hr hE hy H
    refine ⟨fun h => (by rw [h] at hr; cases hr), fun j hj => ?_⟩
    by_cases hji : j = i
    · subst hji; exact hy.xOp hi hE H
    · have := ready_mono hj hji
      rw [H.1] at this
      cases this
  | succ fuel ih =>
    intro listed a w σ hv hfree hr hE hy H
    refine ⟨fun h => (by rw [h] at hr; cases hr), fun j hj => ?_⟩
    by_cases hji : j = i
    · subst hji; exact hy.xOp hi hE H
    · have h1 := H.2 j (ready_mono hj hji)
      obtain ⟨hjun, oj, hoj, hall⟩ := mem_ready.1 hj
      have hnot := ready_not hr hall
      have hap := hfree j oj hoj hji hjun hnot
      have h2 := xOp2_put hoj hap (fun cs b => hsel i oi cs b hi) (fun cs b => hsel j oj cs b hoj) hy h1
      have hfree' : ∀ k ok, ops[k]? = some ok → k ≠ i → (listed.setIfInBounds j true).getD k true = false →
          (∀ e ∈ ok.after, Region.binds .any e = true → e.on ≠ i) → oi.apart ops ok = true := fun k ok hk hki hun hno => by
        refine hfree k ok hk hki ?_ hno
        by_cases hjk : j = k
        · subst hjk; exact hjun
        · rw [getD_set_ne true hjk] at hun; exact hun
      have hkeep : ∀ u, Region.wanted oi (yielded ops (a.put oj.dst u).tmps) = Region.wanted oi (yielded ops a.tmps) := fun u => wanted_put oi a oj.dst u (Oper.apart_spec hap).2.2
      have h3 : xOp2 L1 L2 S1 P ops E W j (fun a' w' σ' => (E.contains i = false ∨ Region.wanted oi (yielded ops a'.tmps) = false) ∧ YX2 L1 L2 S1 P ops W i oi v a' σ' ∧ wpX2 L1 L2 S1 P ops E W Q fuel ((listed.setIfInBounds i true).setIfInBounds j true) (a'.put oi.dst v) w' σ') a w σ := by
        unfold xOp2 at h2 ⊢
        simp only [hoj] at h2 ⊢
        split
        · rename_i hw
          rw [if_pos hw] at h2
          split
          · rename_i he
            rw [if_pos he] at h2
            exact effAt_mono (fun u w' ⟨hl, hk⟩ => ⟨hl, by rw [hkeep u]; exact hE, hk⟩) h2
          · rename_i he
            rw [if_neg he] at h2
            obtain ⟨u, hu, hk⟩ := h2
            exact ⟨u, hu, by rw [hkeep u]; exact hE, hk⟩
        · rename_i hw
          rw [if_neg hw] at h2
          exact ⟨by rw [hkeep undef]; exact hE, h2⟩
      refine xOp2_mono T hv hj (fun a' w' σ' hv' h4 => ih (listed.setIfInBounds j true) a' w' σ' hv' hfree' (ready_mono hr (Ne.symm hji)) h4.1 h4.2.1 ?_) h3
      rw [Array.setIfInBounds_comm _ _ hji]
      exact h4.2.2

theorem wpX2_firstE (_ : Two L1 L2) {i : Nat} {oi : Oper} (hi : ops[i]? = some oi) (hE : E.contains i = true) (hc : chainB ops E = true) (hsel : ∀ (j : Nat) (o : Oper) cs b, ops[j]? = some o → o.op ≠ .select cs b) :
    ∀ (fuel : Nat) (listed : Array Bool) (a : Act) (w : World) (σ : List (Nat × World)), Inv2 L1 L2 ops S1 W listed σ w → DC ops listed →
      (∀ j oj, ops[j]? = some oj → j ≠ i → listed.getD j true = false → (∀ e ∈ oj.after, Region.binds .any e = true → e.on ≠ i) → oi.apart ops oj = true) →
      i ∈ Region.ready .any ops listed → Region.wanted oi (yielded ops a.tmps) = true →
      effAt P oi a w (fun v w' => relE L1 L2 ops S1 oi w w' ∧ wpX2 L1 L2 S1 P ops E W Q fuel (listed.setIfInBounds i true) (a.put oi.dst v) w' ((i, w') :: σ)) → wpX2 L1 L2 S1 P ops E W Q (fuel + 1) listed a w σ := by
  intro fuel
  induction fuel with
  | zero =>
    intro listed a w σ _ _ _ hr hw H
    refine ⟨fun h => (by rw [h] at hr; cases hr), fun j hj => ?_⟩
    by_cases hji : j = i
    · subst hji; unfold xOp2; simp only [hi]; rw [if_pos hw, if_pos hE]; exact H
    · obtain ⟨v, w', _, h0⟩ := effAt_some H
      have := ready_mono hj hji
      rw [h0.1] at this
      cases this
  | succ fuel ih =>
    intro listed a w σ hv hdc hfree hr hw H
    refine ⟨fun h => (by rw [h] at hr; cases hr), fun j hj => ?_⟩
    by_cases hji : j = i
    · subst hji; unfold xOp2; simp only [hi]; rw [if_pos hw, if_pos hE]; exact H
    · obtain ⟨hjun, oj, hoj, hall⟩ := mem_ready.1 hj
      have hnot := ready_not hr hall
      have hap := hfree j oj hoj hji hjun hnot
      obtain ⟨a1, a2, a3⟩ := Oper.apart_spec hap
      have hsi := fun cs b => hsel i oi cs b hi
      have hsj := fun cs b => hsel j oj cs b hoj
      have hjE : ¬ E.contains j = true := fun h => hji (chain_one hdc E hc j i (by simpa using h) (by simpa using hE) hj hr)
      have hnw : waitsOn oj i = false := by
        cases h : waitsOn oj i with
        | false => rfl
        | true => obtain ⟨e, he, hb, hon⟩ := waitsOn_spec h; exact absurd hon (hnot e he hb)
      have hfree' : ∀ k ok, ops[k]? = some ok → k ≠ i → (listed.setIfInBounds j true).getD k true = false →
          (∀ e ∈ ok.after, Region.binds .any e = true → e.on ≠ i) → oi.apart ops ok = true := fun k ok hk hki hun hno => by
        refine hfree k ok hk hki ?_ hno
        by_cases hjk : j = k
        · subst hjk; exact hjun
        · rw [getD_set_ne true hjk] at hun; exact hun
      have hr' := ready_mono hr (Ne.symm hji)
      have next : ∀ u, (∀ v w', wpX2 L1 L2 S1 P ops E W Q (fuel + 1) (listed.setIfInBounds i true) (a.put oi.dst v) w' ((i, w') :: σ) → wpX2 L1 L2 S1 P ops E W Q fuel ((listed.setIfInBounds i true).setIfInBounds j true) ((a.put oi.dst v).put oj.dst u) w' ((i, w') :: σ)) →
          wpX2 L1 L2 S1 P ops E W Q (fuel + 1) (listed.setIfInBounds j true) (a.put oj.dst u) w σ := fun u hn => by
        refine ih (listed.setIfInBounds j true) (a.put oj.dst u) w σ (hv.step hj) (hdc.add hj) hfree' hr' (by rw [wanted_put oi a oj.dst u a3]; exact hw) ?_
        have H2 := effAt_mono (fun v w' ⟨hl, hk⟩ => (⟨hl, hn v w' hk⟩ : relE L1 L2 ops S1 oi w w' ∧ _)) H
        unfold effAt at H2 ⊢
        rw [execOp_put oi hsi a oj.dst u a3]
        refine effAt_mono (P := P) (o := oi) (a := a) (w := w) (fun v w' ⟨hl, hk⟩ => ⟨hl, ?_⟩) H2
        rw [Array.setIfInBounds_comm _ _ hji, ← Act.put_comm a v u a2]
        exact hk
      obtain ⟨v0, w0, hl0, H0⟩ := effAt_some H
      have h1 := H0.2 j (ready_mono hj hji)
      unfold xOp2 at h1 ⊢
      simp only [hoj] at h1 ⊢
      rw [wanted_put oj a oi.dst v0 a1] at h1
      split
      · rename_i hwj
        rw [if_pos hwj, if_neg hjE] at h1
        obtain ⟨c, hc1, hc2⟩ := h1
        have hval : ∀ w', cls2 L1 L2 S1 W σ j oj w' → valAt P oj a w' c := fun w' hw' => by
          have := hc1 w' (cls2_cons_not hnw hw')
          unfold valAt at *
          rwa [execOp_put oj hsj a oi.dst v0 a1] at this
        refine ⟨c, hval, next c fun v w' hk => ?_⟩
        have h2 := hk.2 j (ready_mono hj hji)
        unfold xOp2 at h2
        simp only [hoj] at h2
        rw [wanted_put oj a oi.dst v a1, if_pos hwj, if_neg hjE] at h2
        obtain ⟨c', hc1', hc2'⟩ := h2
        have e : c' = c := by
          refine valAt_fun ?_ (hval w (hv.cls hj oj))
          have := hc1' w (cls2_cons_not hnw (hv.cls hj oj))
          unfold valAt at *
          rwa [execOp_put oj hsj a oi.dst v a1] at this
        subst e
        exact hc2'
      · rename_i hwj
        refine next undef fun v w' hk => ?_
        have h2 := hk.2 j (ready_mono hj hji)
        unfold xOp2 at h2
        simp only [hoj] at h2
        rw [wanted_put oj a oi.dst v a1, if_neg hwj] at h2
        exact h2

/-- The walk in the text's order. -/
def wpXT (L1 L2 : World → World → Prop) (S1 : List Nat) (P : Program) (ops : Array Oper) (E : List Nat) (W : World) (Q : Exit → Act → World → Prop) : Nat → List Oper → Act → World → List (Nat × World) → Prop
  | _, [], a, w, _ => Q .normal a w
  | k, o :: rest, a, w, σ =>
    if Region.wanted o (yielded ops a.tmps) = true then
      (if E.contains k = true then effAt P o a w (fun v w' => relE L1 L2 ops S1 o w w' ∧ wpXT L1 L2 S1 P ops E W Q (k + 1) rest (a.put o.dst v) w' ((k, w') :: σ)) else ∃ v, (∀ w', cls2 L1 L2 S1 W σ k o w' → valAt P o a w' v) ∧ wpXT L1 L2 S1 P ops E W Q (k + 1) rest (a.put o.dst v) w σ)
    else wpXT L1 L2 S1 P ops E W Q (k + 1) rest (a.put o.dst undef) w σ

theorem wpX2_lex (T : Two L1 L2) (hs : Region.noSelect ops = true) (hc : chainB ops E = true) : ∀ (l : List Oper) (k : Nat) (listed : Array Bool) (a : Act) (w : World) (σ : List (Nat × World)), Inv2 L1 L2 ops S1 W listed σ w → DC ops listed → (∀ j, l[j]? = ops[k + j]?) →
    Region.lexFrom .any ops l.length k listed = true → wpXT L1 L2 S1 P ops E W Q k l a w σ → wpX2 L1 L2 S1 P ops E W Q l.length listed a w σ
  | [], _, _, _, _, _, _, _, _, hB, h => ⟨by simpa [Region.lexFrom] using hB, h⟩
  | o :: l, k, listed, a, w, σ, hv, hd, hl, hB, h => by
    have h0 : ops[k]? = some o := by simpa using (hl 0).symm
    simp only [List.length_cons, Region.lexFrom, Bool.and_eq_true] at hB
    obtain ⟨⟨hr, hf⟩, hB'⟩ := hB
    have hr' : k ∈ Region.ready .any ops listed := by simpa using hr
    have next : ∀ a' w' σ', Inv2 L1 L2 ops S1 W (listed.setIfInBounds k true) σ' w' → wpXT L1 L2 S1 P ops E W Q (k + 1) l a' w' σ' → wpX2 L1 L2 S1 P ops E W Q l.length (listed.setIfInBounds k true) a' w' σ' := fun a' w' σ' hv' h' =>
      wpX2_lex T hs hc l (k + 1) _ a' w' σ' hv' (hd.add hr') (fun j => by have := hl (j + 1); simpa [Nat.add_assoc, Nat.add_comm 1 j] using this) hB' h'
    unfold wpXT at h
    split at h
    · rename_i hw
      split at h
      · rename_i hE
        exact wpX2_firstE T h0 hE hc (Region.noSelect_spec hs) l.length listed a w σ hv hd (Region.free_spec h0 hf) hr' hw (effAt_mono (fun v w' ⟨hl', hk⟩ => ⟨hl', next _ _ _ (hv.cons T h0 hr' hl') hk⟩) h)
      · rename_i hE
        obtain ⟨v, h1, h2⟩ := h
        exact wpX2_first T h0 (Region.noSelect_spec hs) l.length listed a w σ hv (Region.free_spec h0 hf) hr' (.inl (by simpa using hE)) (.inl ⟨hw, h1⟩) (next _ _ _ (hv.step hr') h2)
    · rename_i hw
      have hw' : Region.wanted o (yielded ops a.tmps) = false := by simpa using hw
      exact wpX2_first T h0 (Region.noSelect_spec hs) l.length listed a w σ hv (Region.free_spec h0 hf) hr' (.inr hw') (.inr ⟨hw', rfl⟩) (next _ _ _ (hv.step hr') h)

/-- Nothing turns (from number B on there are none). -/
def La (B : Nat) (a b : World) : Prop := B ≤ a.heap.size → Lq a b
/-- Nothing turns below B. -/
def Lb (B : Nat) (a b : World) : Prop := B ≤ a.heap.size → (Below B a b ∧ B ≤ b.heap.size)
theorem two (B : Nat) : Two (La B) (Lb B) :=
  { r1 := fun w _ => Lq.refl w
    r2 := fun _ hw => ⟨Below.refl _ _, hw⟩
    t1 := fun h k hw => (h hw).trans (k (Nat.le_trans hw (h hw).size))
    t2 := fun h k hw => ⟨(h hw).1.trans (k (h hw).2).1, (k (h hw).2).2⟩
    le := fun h hw => ⟨(h hw).mono hw, Nat.le_trans hw (h hw).size⟩ }
/-- ONE WALK IN THE TEXT's ORDER: the effects that wait for all of S1 may turn blocks from number B on; the others turn none; what is not in S1 reads below B. -/
theorem wp_region_lexT (B : Nat) (S1 E : List Nat) {id : Nat} {a : Act} {w : World} {l : List Oper} (hm : P.follows .mixedOrders = true) (hB : Region.lexB .any l.toArray = true) (hc : chainB l.toArray E = true)
    (h : wpXT (La B) (Lb B) S1 P l.toArray E w.drew Q 0 l a w.drew []) : (Code.region id l.toArray true).wp P Q a w := by
  simp only [Region.lexB, Bool.and_eq_true] at hB
  refine wp_region_any hm ?_
  have hd : DC l.toArray (Array.replicate l.toArray.size false) := fun k o _ hl => by
    rw [Array.getD_eq_getD_getElem?, Array.getElem?_replicate] at hl
    split at hl <;> simp at hl
  have hI : Inv2 (La B) (Lb B) l.toArray S1 w.drew (Array.replicate l.toArray.size false) [] w.drew := ⟨hd, ⟨(two B).r2 _, by simp⟩, fun _ => ⟨(two B).r1 _, by simp⟩⟩
  refine wpAny_of_X2 (two B) (S1 := S1) (E := E) (W := w.drew) _ _ _ _ [] hI ?_
  have := wpX2_lex (P := P) (two B) (S1 := S1) (W := w.drew) (Q := Q) hB.1 hc l 0 (Array.replicate l.toArray.size false) a w.drew [] hI hd (by simp) (by simpa using hB.2) h
  simpa using this

/-! ### The steps -/
theorem relE_lq {B : Nat} {o : Oper} {w w' : World} (h : Below w.heap.size w w') : relE (La B) (Lb B) ops S1 o w w' := by
  unfold relE
  split
  · exact (two B).le fun _ => h
  · exact fun _ => h
theorem relE_tail {B : Nat} {o : Oper} {w w' : World} (ho : waitsAll ops S1 o = true) (h : Below B w w') : relE (La B) (Lb B) ops S1 o w w' := by
  unfold relE
  rw [if_pos ho]
  exact fun hw => ⟨h, Nat.le_trans hw h.size⟩
theorem wpXT_nil {k : Nat} {a : Act} {w : World} {σ : List (Nat × World)} (h : Q .normal a w) : wpXT L1 L2 S1 P ops E W Q k [] a w σ := h
theorem wpXT_quietC {k : Nat} {o : Oper} {rest : List Oper} {a : Act} {w : World} {σ : List (Nat × World)} (hE : E.contains k = false) (hp : plainOp o.op = true) (C : World → Prop) (h0 : ∀ w', cls2 L1 L2 S1 W σ k o w' → C w')
    (h : wpQuiet P ops C (fun a' => wpXT L1 L2 S1 P ops E W Q (k + 1) rest a' w σ) [o] a) : wpXT L1 L2 S1 P ops E W Q k (o :: rest) a w σ := by
  unfold wpXT
  unfold wpQuiet at h
  split
  · rename_i hw
    rw [if_pos hw] at h
    rw [if_neg (by rw [hE]; exact Bool.false_ne_true)]
    obtain ⟨v, h1, h2⟩ := h
    refine ⟨v, fun w' hw' => ?_, h2⟩
    have := h1 w' (h0 w' hw')
    unfold Oper.quietAt at this
    unfold valAt
    have hne := fun f args w'' => plain_no_enter (P := P) hp (ρ := a.eval) (w := w') (w' := w'') (f := f) (args := args)
    generalize (execOp a.eval o).run P w' = r at *
    cases r with
    | ok n w1 =>
      cases n <;> simp only [Oper.quietUpon] at this
      case value u => obtain ⟨rfl, rfl⟩ := this; exact .inl rfl
      case skip => obtain ⟨rfl, rfl⟩ := this; exact .inr ⟨rfl, rfl⟩
      case enter f args => exact absurd rfl (hne f args w1)
    | halt x w1 => simp only [Oper.quietUpon] at this
  · rename_i hw
    rw [if_neg hw] at h
    exact h
/-- An operation of S1 that reads: in every world from where the region began, all there being as it was. -/
theorem wpXT_quiet1 {B : Nat} {k : Nat} {o : Oper} {rest : List Oper} {a : Act} {w : World} {σ : List (Nat × World)} (hE : E.contains k = false) (hS : S1.contains k = true) (hp : plainOp o.op = true) (hW : B ≤ W.heap.size)
    (h : wpQuiet P ops (fun w' => ∃ p : Wd W, w' = p.w) (fun a' => wpXT (La B) (Lb B) S1 P ops E W Q (k + 1) rest a' w σ) [o] a) : wpXT (La B) (Lb B) S1 P ops E W Q k (o :: rest) a w σ :=
  wpXT_quietC hE hp _ (fun w' hw' => ⟨⟨w', by have := hw'.1; unfold relC at this; rw [if_pos hS] at this; exact this hW⟩, rfl⟩) h
/-- Another one that reads: below B. -/
theorem wpXT_quiet2 {B : Nat} {k : Nat} {o : Oper} {rest : List Oper} {a : Act} {w : World} {σ : List (Nat × World)} (hE : E.contains k = false) (hS : S1.contains k = false) (hp : plainOp o.op = true) (hW : B ≤ W.heap.size)
    (h : wpQuiet P ops (fun w' => ∃ p : WdB B W, w' = p.w) (fun a' => wpXT (La B) (Lb B) S1 P ops E W Q (k + 1) rest a' w σ) [o] a) : wpXT (La B) (Lb B) S1 P ops E W Q k (o :: rest) a w σ :=
  wpXT_quietC hE hp _ (fun w' hw' => ⟨⟨w', by have := hw'.1; unfold relC at this; rw [hS, if_neg Bool.false_ne_true] at this; exact (this hW).1⟩, rfl⟩) h
theorem wpXT_skip {k : Nat} {o : Oper} {rest : List Oper} {a : Act} {w : World} {σ : List (Nat × World)} (hw : Region.wanted o (yielded ops a.tmps) = false) (h : wpXT L1 L2 S1 P ops E W Q (k + 1) rest (a.put o.dst undef) w σ) : wpXT L1 L2 S1 P ops E W Q k (o :: rest) a w σ := by
  unfold wpXT
  rw [if_neg (by rw [hw]; exact Bool.false_ne_true)]
  exact h
/-- A call of a Go function that turns nothing. -/
theorem wpXT_call {B : Nat} {k : Nat} {o : Oper} {rest : List Oper} {a : Act} {w : World} {σ : List (Nat × World)} (hE : E.contains k = true) (hw : Region.wanted o (yielded ops a.tmps) = true) {f : FuncId} {xs : Array Operand} {ts : Array TypeId}
    (ho : o.op = .call { callee := .value (.func f), args := xs, argTypes := ts }) (hen : ∀ args w, (callFunc f args).run P w = .ok (.enter f args) w)
    (args : Array Value) (hargs : xs.toList.map a.eval = args.toList) (h : Calls P f args w fun e w' => ∃ v, e = .returned v ∧ Below w.heap.size w w' ∧ wpXT (La B) (Lb B) S1 P ops E W Q (k + 1) rest (a.put o.dst v) w' ((k, w') :: σ)) : wpXT (La B) (Lb B) S1 P ops E W Q k (o :: rest) a w σ := by
  unfold wpXT
  rw [if_pos hw, if_pos hE]
  unfold effAt
  have hargs : xs.map a.eval = args := Array.toList_inj.1 (by rw [Array.toList_map]; exact hargs)
  subst hargs
  have : (execOp a.eval o).run P w = .ok (.enter f (xs.map a.eval)) w := by
    unfold execOp
    simp [ho, resolve, invoke, Act.eval, Deferred.ofValue, hen]
  rw [this]
  exact Calls.mono h fun e w' ⟨v, he, hb, hk⟩ => ⟨v, he, relE_lq hb, hk⟩
/-- An operation that makes or turns memory itself. -/
theorem wpXT_eff {k : Nat} {o : Oper} {rest : List Oper} {a : Act} {w : World} {σ : List (Nat × World)} (hE : E.contains k = true) (hw : Region.wanted o (yielded ops a.tmps) = true) (v : Value) (w' : World)
    (hrun : (execOp a.eval o).run P w = .ok (.value v) w') (hl : relE L1 L2 ops S1 o w w') (h : wpXT L1 L2 S1 P ops E W Q (k + 1) rest (a.put o.dst v) w' ((k, w') :: σ)) : wpXT L1 L2 S1 P ops E W Q k (o :: rest) a w σ := by
  unfold wpXT
  rw [if_pos hw, if_pos hE]
  unfold effAt
  rw [hrun]
  exact ⟨hl, h⟩
theorem wpXT_store {k : Nat} {o : Oper} {rest : List Oper} {a : Act} {w : World} {σ : List (Nat × World)} (hE : E.contains k = true) (hw : Region.wanted o (yielded ops a.tmps) = true) (w' : World)
    (hrun : (execOp a.eval o).run P w = .ok .skip w') (hl : relE L1 L2 ops S1 o w w') (h : wpXT L1 L2 S1 P ops E W Q (k + 1) rest (a.put o.dst undef) w' ((k, w') :: σ)) : wpXT L1 L2 S1 P ops E W Q k (o :: rest) a w σ := by
  unfold wpXT
  rw [if_pos hw, if_pos hE]
  unfold effAt
  rw [hrun]
  exact ⟨hl, h⟩
attribute [irreducible] wpXT
end
end Go.Proofs.Ytlhnjaeocoafnaa
