import Derived.Test.YtmihlihlpdkdcaaGreatQ09
import Derived.Test.YtmihlihlpdkdcaaGreatQ08
import Derived.Deep.Cut
import Derived.Deep.CutRange
import Derived.Deep.RegionLaw
import Derived.Laws.Cover3
import Derived.Test.YtmihlihlpdkdcaaGreatQ03
namespace Go.Proofs.YtmihlihlpdkdcaaGreat
open Go.RowKit
set_option maxRecDepth 200000
set_option maxHeartbeats 64000000
open Go.RowKit
section
variable {P : Program} {ops : Array Oper} {E S1 : List Nat} {W : World} {Q : Exit → Act → World → Prop} {B fuel : Nat} {listed : Array Bool} {a : Act} {w : World} {σ : List (Nat × World)}
def GX (B : Nat) (S1 : List Nat) (P : Program) (ops : Array Oper) (E : List Nat) (W : World) (Q : Exit → Act → World → Prop) (fuel : Nat) (listed : Array Bool) (a : Act) (w : World) (σ : List (Nat × World)) : Prop :=
 Inv2 (La B) (Lb B) ops S1 W listed σ w → wpX2 (La B) (Lb B) S1 P ops E W Q fuel listed a w σ
theorem GX.start {l : List Oper} (h : GX B S1 P l.toArray E w.drew Q l.length (Array.replicate l.length false) a w.drew []) : wpAny P .any l.toArray Q l.toArray.size (Array.replicate l.toArray.size false) a w.drew := by
 have hd : DC l.toArray (Array.replicate l.length false) := fun k o _ hl => by
  rw [Array.getD_eq_getD_getElem?, Array.getElem?_replicate] at hl
  split at hl <;> simp at hl
 have hI : Inv2 (La B) (Lb B) l.toArray S1 w.drew (Array.replicate l.length false) [] w.drew := ⟨hd, ⟨(two B).r2 _, by simp⟩, fun _ => ⟨(two B).r1 _, by simp⟩⟩
 have := ze7 (two B) (S1 := S1) (E := E) (W := w.drew) l.length _ _ _ [] hI (h hI)
 rw [List.size_toArray]
 exact this
theorem zl2 (B : Nat) (S1 E : List Nat) {id : Nat} {l : List Oper} (hm : P.follows .mixedOrders = true) (h : GX B S1 P l.toArray E w.drew Q l.length (Array.replicate l.length false) a w.drew []) : (Code.region id l.toArray true).wp P Q a w :=
 wp_region_any hm h.start
theorem zua {l : List Oper} {i : Nat} {o : Oper} {rest : List Oper} (h : l.drop i = o :: rest) : l.toArray[i]? = some o := by
 rw [List.getElem?_toArray, ← Nat.add_zero i, ← List.getElem?_drop, h]
 rfl
theorem GX.nil (hr : Region.ready .any ops listed = []) (h : Q .normal a w) : GX B S1 P ops E W Q 0 listed a w σ := fun _ => ⟨hr, h⟩
theorem GX.takeC {i : Nat} {o : Oper} (hi : ops[i]? = some o) (hE : E.contains i = false) (hs : Region.noSelect ops = true) (hr : (Region.ready .any ops listed).contains i = true) (hf : Region.free .any ops listed i = true) (hp : zd6 o.op = true) (C : World → Prop) (h0 : ∀ w', cls2 (La B) (Lb B) S1 W σ i o w' → C w')
  (h : wpQuiet P ops C (fun a' => GX B S1 P ops E W Q fuel (listed.setIfInBounds i true) a' w σ) [o] a) : GX B S1 P ops E W Q (fuel + 1) listed a w σ := by
 intro hv
 have hr' : i ∈ Region.ready .any ops listed := by simpa using hr
 unfold wpQuiet at h
 by_cases hw : Region.wanted o (yielded ops a.tmps) = true
 ·
  rw [if_pos hw] at h
  obtain ⟨v, h1, h2⟩ := h
  refine zkm (two B) hi (Region.noSelect_spec hs) fuel listed a w σ hv (Region.free_spec hi hf) hr' (.inl hE) (.inl ⟨hw, fun w' hw' => ?_⟩) (h2 (hv.step hr'))
  have := h1 w' (h0 w' hw')
  unfold Oper.quietAt at this
  unfold zea
  have hne := fun f args w'' => zfp (P := P) hp (ρ := a.eval) (w := w') (w' := w'') (f := f) (args := args)
  generalize (execOp a.eval o).run P w' = r at *
  cases r with
  | ok n w1 =>
   cases n <;> simp only [Oper.quietUpon] at this
   case value u => obtain ⟨rfl, rfl⟩ := this; exact .inl rfl
   case skip => obtain ⟨rfl, rfl⟩ := this; exact .inr ⟨rfl, rfl⟩
   case enter f args => exact absurd rfl (hne f args w1)
  | halt x w1 => simp only [Oper.quietUpon] at this
 ·
  rw [if_neg hw] at h
  have hw' : Region.wanted o (yielded ops a.tmps) = false := by simpa using hw
  exact zkm (two B) hi (Region.noSelect_spec hs) fuel listed a w σ hv (Region.free_spec hi hf) hr' (.inr hw') (.inr ⟨hw', rfl⟩) (h (hv.step hr'))
theorem GX.take1 (i : Nat) {l : List Oper} {o : Oper} {tl : List Oper} (hi : l.drop i = o :: tl) (hE : E.contains i = false) (hS : S1.contains i = true) (hs : Region.noSelect l.toArray = true) (hr : (Region.ready .any l.toArray listed).contains i = true) (hf : Region.free .any l.toArray listed i = true) (hp : zd6 o.op = true) (hW : B ≤ W.heap.size)
  (h : wpQuiet P l.toArray (fun w' => ∃ p : Wd W, w' = p.w) (fun a' => GX B S1 P l.toArray E W Q fuel (listed.setIfInBounds i true) a' w σ) [o] a) : GX B S1 P l.toArray E W Q (fuel + 1) listed a w σ :=
 GX.takeC (zua hi) hE hs hr hf hp _ (fun w' hw' => ⟨⟨w', by have := hw'.1; unfold relC at this; rw [if_pos hS] at this; exact this hW⟩, rfl⟩) h
theorem GX.take2 (i : Nat) {l : List Oper} {o : Oper} {tl : List Oper} (hi : l.drop i = o :: tl) (hE : E.contains i = false) (hS : S1.contains i = false) (hs : Region.noSelect l.toArray = true) (hr : (Region.ready .any l.toArray listed).contains i = true) (hf : Region.free .any l.toArray listed i = true) (hp : zd6 o.op = true) (hW : B ≤ W.heap.size)
  (h : wpQuiet P l.toArray (fun w' => ∃ p : WdB B W, w' = p.w) (fun a' => GX B S1 P l.toArray E W Q fuel (listed.setIfInBounds i true) a' w σ) [o] a) : GX B S1 P l.toArray E W Q (fuel + 1) listed a w σ :=
 GX.takeC (zua hi) hE hs hr hf hp _ (fun w' hw' => ⟨⟨w', by have := hw'.1; unfold relC at this; rw [hS, if_neg Bool.false_ne_true] at this; exact (this hW).1⟩, rfl⟩) h
theorem GX.branch1 (i : Nat) (hr : Region.ready .any ops listed = [i]) (h : xOp2 (La B) (Lb B) S1 P ops E W i (fun a' w' σ' => GX B S1 P ops E W Q fuel (listed.setIfInBounds i true) a' w' σ') a w σ) : GX B S1 P ops E W Q (fuel + 1) listed a w σ := by
 intro hv
 refine ⟨fun e => (by rw [hr] at e; cases e), fun k hk => ?_⟩
 have hk' := hk
 rw [hr, List.mem_singleton] at hk
 subst hk
 exact zg2 (two B) hv hk' (fun _ _ _ hv' hk => hk hv') h
theorem GX.branch2 (i j : Nat) (hr : Region.ready .any ops listed = [i, j]) (h : xOp2 (La B) (Lb B) S1 P ops E W i (fun a' w' σ' => GX B S1 P ops E W Q fuel (listed.setIfInBounds i true) a' w' σ') a w σ) (h' : xOp2 (La B) (Lb B) S1 P ops E W j (fun a' w' σ' => GX B S1 P ops E W Q fuel (listed.setIfInBounds j true) a' w' σ') a w σ) : GX B S1 P ops E W Q (fuel + 1) listed a w σ := by
 intro hv
 refine ⟨fun e => (by rw [hr] at e; cases e), fun k hk => ?_⟩
 have hk' := hk
 rw [hr, List.mem_cons, List.mem_singleton] at hk
 rcases hk with rfl | rfl
 ·
  exact zg2 (two B) hv hk' (fun _ _ _ hv' hk => hk hv') h
 ·
  exact zg2 (two B) hv hk' (fun _ _ _ hv' hk => hk hv') h'
variable {K : Act → World → List (Nat × World) → Prop}
theorem zef {i : Nat} {lo : List Oper} {o : Oper} {tl : List Oper} (hi : lo.drop i = o :: tl) (hE : E.contains i = true) (hw : Region.wanted o (yielded lo.toArray a.tmps) = true) (v : Value) (w' : World) (hrun : (execOp a.eval o).run P w = .ok (.value v) w') (hl : relE (La B) (Lb B) lo.toArray S1 o w w') (h : K (a.put o.dst v) w' ((i, w') :: σ)) : xOp2 (La B) (Lb B) S1 P lo.toArray E W i K a w σ := by
 unfold xOp2
 simp only [zua hi]
 rw [if_pos hw, if_pos hE]
 unfold zes
 rw [hrun]
 exact ⟨hl, h⟩
theorem zg8 {i : Nat} {lo : List Oper} {o : Oper} {tl : List Oper} (hi : lo.drop i = o :: tl) (hE : E.contains i = true) (hw : Region.wanted o (yielded lo.toArray a.tmps) = true) (w' : World) (hrun : (execOp a.eval o).run P w = .ok .skip w') (hl : relE (La B) (Lb B) lo.toArray S1 o w w') (h : K (a.put o.dst undef) w' ((i, w') :: σ)) : xOp2 (La B) (Lb B) S1 P lo.toArray E W i K a w σ := by
 unfold xOp2
 simp only [zua hi]
 rw [if_pos hw, if_pos hE]
 unfold zes
 rw [hrun]
 exact ⟨hl, h⟩
theorem zfo {i : Nat} {lo : List Oper} {o : Oper} {tl : List Oper} (hi : lo.drop i = o :: tl) (hE : E.contains i = true) (hw : Region.wanted o (yielded lo.toArray a.tmps) = true) {f : FuncId} {xs : Array Operand} {ts : Array TypeId}
  (ho : o.op = .call { callee := .value (.func f), args := xs, argTypes := ts }) (hen : ∀ args w, (callFunc f args).run P w = .ok (.enter f args) w)
  (args : Array Value) (hargs : xs.toList.map a.eval = args.toList) (h : Calls P f args w fun e w' => ∃ v, e = .returned v ∧ Below w.heap.size w w' ∧ K (a.put o.dst v) w' ((i, w') :: σ)) : xOp2 (La B) (Lb B) S1 P lo.toArray E W i K a w σ := by
 unfold xOp2
 simp only [zua hi]
 rw [if_pos hw, if_pos hE]
 unfold zes
 have hargs : xs.map a.eval = args := Array.toList_inj.1 (by rw [Array.toList_map]; exact hargs)
 subst hargs
 have : (execOp a.eval o).run P w = .ok (.enter f (xs.map a.eval)) w := by
  unfold execOp
  simp [ho, resolve, invoke, Act.eval, Deferred.ofValue, hen]
 rw [this]
 exact Calls.mono h fun e w' ⟨v, he, hb, hk⟩ => ⟨v, he, zcw hb, hk⟩
attribute [irreducible] GX
end
theorem ybc (x : En) (g : Eg) (w : World) (h : LaidG w x g) : Calls Tryz.prog 16 #[.agg (en x)] w fun e w' => e = .returned (.bool (fewG g)) ∧ Below w.heap.size w w' := by
 obtain ⟨W0, hW0⟩ : ∃ W0, W0 = w.alloc (.cells (en x) 39) := ⟨_, rfl⟩
 have A0 : Gv w W0 w.heap.size x g := by rw [hW0]; exact zud h
 have HW := Lib.hid hW0
 obtain ⟨b0, hb0⟩ : ∃ b, b = decide (g.t.length ≤ 16) := ⟨_, rfl⟩
 obtain ⟨⟨p0, n0, c0⟩, hs0⟩ : ∃ s : SlV, s = x.t.n := ⟨_, rfl⟩
 have l0 : g.t.length = n0 := by have := zck A0.l.t; rw [← hs0] at this; exact this
 have y0 := A0.zt
 rw [← hs0, zat] at y0
 have s0 : decide (n0 ≤ 16) = b0 := by rw [hb0, l0]
 have t0 : decide ((n0 : Int) ≤ 16) = b0 := by rw [hb0, l0]; congr 1; rw [eq_iff_iff]; omega
 obtain ⟨b1, hb1⟩ : ∃ b, b = decide (g.bal.length ≤ 12) := ⟨_, rfl⟩
 obtain ⟨⟨p1, n1, c1⟩, hs1⟩ : ∃ s : SlV, s = x.bal := ⟨_, rfl⟩
 have l1 : g.bal.length = n1 := by have := zck A0.l.bal; rw [← hs1] at this; exact this
 have y1 := A0.zb
 rw [← hs1, zat] at y1
 have s1 : decide (n1 ≤ 12) = b1 := by rw [hb1, l1]
 have t1 : decide ((n1 : Int) ≤ 12) = b1 := by rw [hb1, l1]; congr 1; rw [eq_iff_iff]; omega
 obtain ⟨b2, hb2⟩ : ∃ b, b = decide (g.v.l.length ≤ 12) := ⟨_, rfl⟩
 obtain ⟨⟨p2, n2, c2⟩, hs2⟩ : ∃ s : SlV, s = x.v.l := ⟨_, rfl⟩
 have l2 : g.v.l.length = n2 := by have := zck A0.l.v; rw [← hs2] at this; exact this
 have y2 := A0.zv
 rw [← hs2, zat] at y2
 have s2 : decide (n2 ≤ 12) = b2 := by rw [hb2, l2]
 have t2 : decide ((n2 : Int) ≤ 12) = b2 := by rw [hb2, l2]; congr 1; rw [eq_iff_iff]; omega
 obtain ⟨b3, hb3⟩ : ∃ b, b = decide (g.w.length ≤ 16) := ⟨_, rfl⟩
 obtain ⟨⟨p3, n3, c3⟩, hs3⟩ : ∃ s : SlV, s = x.w := ⟨_, rfl⟩
 have l3 : g.w.length = n3 := by have := zck A0.l.w; rw [← hs3] at this; exact this
 have y3 := A0.zw
 rw [← hs3, zat] at y3
 have s3 : decide (n3 ≤ 16) = b3 := by rw [hb3, l3]
 have t3 : decide ((n3 : Int) ≤ 16) = b3 := by rw [hb3, l3]; congr 1; rw [eq_iff_iff]; omega
 obtain ⟨b4, hb4⟩ : ∃ b, b = decide (g.late.length ≤ 10) := ⟨_, rfl⟩
 obtain ⟨⟨p4, n4, c4⟩, hs4⟩ : ∃ s : SlV, s = x.late := ⟨_, rfl⟩
 have l4 : g.late.length = n4 := by have := zck A0.l.late; rw [← hs4] at this; exact this
 have y4 := A0.zl
 rw [← hs4, zat] at y4
 have s4 : decide (n4 ≤ 10) = b4 := by rw [hb4, l4]
 have t4 : decide ((n4 : Int) ≤ 10) = b4 := by rw [hb4, l4]; congr 1; rw [eq_iff_iff]; omega
 obtain ⟨b5, hb5⟩ : ∃ b, b = decide (g.k.length ≤ 20) := ⟨_, rfl⟩
 obtain ⟨⟨p5, n5, c5⟩, hs5⟩ : ∃ s : SlV, s = x.k := ⟨_, rfl⟩
 have l5 : g.k.length = n5 := by have := zck A0.l.k; rw [← hs5] at this; exact this
 have y5 := A0.zk
 rw [← hs5, zat] at y5
 have s5 : decide (n5 ≤ 20) = b5 := by rw [hb5, l5]
 have t5 : decide ((n5 : Int) ≤ 20) = b5 := by rw [hb5, l5]; congr 1; rw [eq_iff_iff]; omega
 obtain ⟨b6, hb6⟩ : ∃ b, b = decide (g.j.length ≤ 24) := ⟨_, rfl⟩
 obtain ⟨⟨p6, n6, c6⟩, hs6⟩ : ∃ s : SlV, s = x.j := ⟨_, rfl⟩
 have l6 : g.j.length = n6 := by have := zck A0.l.j; rw [← hs6] at this; exact this
 have y6 := A0.zj
 rw [← hs6, zat] at y6
 have s6 : decide (n6 ≤ 24) = b6 := by rw [hb6, l6]
 have t6 : decide ((n6 : Int) ≤ 24) = b6 := by rw [hb6, l6]; congr 1; rw [eq_iff_iff]; omega
 have HF : Hid (fewG g = (b0 && (b1 && (b2 && (b3 && (b4 && (b5 && b6))))))) := by show _ = _; unfold fewG; rw [hb0, hb1, hb2, hb3, hb4, hb5, hb6]
 have HB := Lib.hid A0.g
 obtain ⟨r, hr⟩ : ∃ r, r = fewG g := ⟨_, rfl⟩
 rw [← hr] at HF ⊢
 clear A0 hW0 hr hb0 hs0 l0 hb1 hs1 l1 hb2 hs2 l2 hb3 hs3 l3 hb4 hs4 l4 hb5 hs5 l5 hb6 hs6 l6
 cases b0
 ·
  go_enter Tryz.func16, Tryz.ntmps16
  go_upto_region 1 with fail
  rw [← HW.out]
  go_wp2_with fail
  go_ret
  exact ⟨by rw [HF.out]; first | done | rfl, HB.out⟩
 ·
  cases b1
  ·
   go_enter Tryz.func16, Tryz.ntmps16
   go_upto_region 1 with fail
   rw [← HW.out]
   go_wp2_with fail
   go_ret
   exact ⟨by rw [HF.out]; first | done | rfl, HB.out⟩
  ·
   cases b2
   ·
    go_enter Tryz.func16, Tryz.ntmps16
    go_upto_region 1 with fail
    rw [← HW.out]
    go_wp2_with fail
    go_ret
    exact ⟨by rw [HF.out]; first | done | rfl, HB.out⟩
   ·
    cases b3
    ·
     go_enter Tryz.func16, Tryz.ntmps16
     go_upto_region 1 with fail
     rw [← HW.out]
     go_wp2_with fail
     go_ret
     exact ⟨by rw [HF.out]; first | done | rfl, HB.out⟩
    ·
     cases b4
     ·
      go_enter Tryz.func16, Tryz.ntmps16
      go_upto_region 1 with fail
      rw [← HW.out]
      go_wp2_with fail
      go_ret
      exact ⟨by rw [HF.out]; first | done | rfl, HB.out⟩
     ·
      cases b5
      ·
       go_enter Tryz.func16, Tryz.ntmps16
       go_upto_region 1 with fail
       rw [← HW.out]
       go_wp2_with fail
       go_ret
       exact ⟨by rw [HF.out]; first | done | rfl, HB.out⟩
      ·
       cases b6
       ·
        go_enter Tryz.func16, Tryz.ntmps16
        go_upto_region 1 with fail
        rw [← HW.out]
        go_wp2_with fail
        go_ret
        exact ⟨by rw [HF.out]; first | done | rfl, HB.out⟩
       ·
        go_enter Tryz.func16, Tryz.ntmps16
        go_upto_region 1 with fail
        rw [← HW.out]
        go_wp2_with fail
        go_ret
        exact ⟨by rw [HF.out]; first | done | rfl, HB.out⟩
section
open Go.RowKit
def bkL (x : Bk) : List Value := (rc x.root).toList ++ ((rc x.parent).toList ++ ([num x.slot] ++ ([num x.just])))
def bk (x : Bk) : Array Value := (bkL x).toArray
theorem ycv (x : Bk) : (bk x).toList = bkL x := rfl
theorem yt9 (x : Bk) : (bkL x).length = 66 := by simp [bkL, zar]
theorem zhr (x : Bk) : (bk x).size = 66 := by rw [← Array.length_toList, ycv, yt9]
theorem yuu (x : Bk) : ∀ v ∈ bkL x, v.oneCell' = true := by
 intro v hv
 unfold bkL at hv
 simp only [List.mem_append, List.mem_singleton] at hv
 rcases hv with hv | hv | rfl | rfl
 ·
  exact zg9 _ v hv
 ·
  exact zg9 _ v hv
 ·
  rfl
 ·
  rfl
@[go_sem] theorem yyt (x : Bk) : okA 66 (.agg (bk x)) = true := by
 show ((bk x).size == 66 && (bk x).all (·.oneCell')) = true
 rw [show (bk x).all (·.oneCell') = true from zf1 (yuu x), zhr]; rfl
def zbk : Bk := ⟨zr, zr, 0, 0⟩
theorem yfp (w : World) : (zeroValue 69).run Tryz.prog w = .ok (.agg (bk zbk)) w := by kernel_rfl
@[go_sem ↓] theorem yyd (ρ : Operand → Value) (dst : Option Tmp) (x : Operand) (ty : TypeId) (pos : String) (after : Array Edge) (guard : Option (Nat × Bool)) (w : World) :
  (execOp ρ { dst, op := .load 69 x, type := ty, pos, after, guard }).run Tryz.prog w = zje (ldA w (ρ x) 66) w (zbe Tryz.prog ρ { dst, op := .load 69 x, type := ty, pos, after, guard } w) :=
 zbp Tryz.isAgg69 Tryz.sizeOf69 ρ dst x ty pos after guard w
@[go_sem ↓] theorem yxd (ρ : Operand → Value) (dst : Option Tmp) (x y : Operand) (ty : TypeId) (pos : String) (after : Array Edge) (guard : Option (Nat × Bool)) (w : World) :
  (execOp ρ { dst, op := .store 69 x y, type := ty, pos, after, guard }).run Tryz.prog w = zjf (wrA w (ρ x) 66 && okA 66 (ρ y)) (stA w (ρ x) (ρ y)) (zbe Tryz.prog ρ { dst, op := .store 69 x y, type := ty, pos, after, guard } w) :=
 zbh Tryz.sizeOf69 ρ dst x y ty pos after guard w
@[go_sem ↓] theorem yw6 (ρ : Operand → Value) (dst : Option Tmp) (ty : TypeId) (pos : String) (after : Array Edge) (guard : Option (Nat × Bool)) (w : World) :
  (execOp ρ { dst, op := .alloc 69, type := ty, pos, after, guard }).run Tryz.prog w = .ok (.value (.pointer (some ⟨w.heap.size, 0, none⟩))) (w.alloc (.cells (bk zbk) 69)) := by
 unfold execOp
 simp only [Instr.alloc, Sem.run_bind, yfp, Result.andThen_ok]
 rfl
def places_bk : List (Nat × Nat) := [(0, 32), (32, 32), (64, 1), (65, 1)]
theorem ydc : ∀ w : World, ((Tryz.prog.fieldsOf 69).mapM (m := Sem) fun f => do pure (f.offset, ← Go.sizeOf f.type)).run Tryz.prog w = .ok places_bk.toArray w := fun _ => by kernel_rfl
theorem zkz : Tryz.prog.underlying 69 = some (.struct (Tryz.prog.fieldsOf 69)) := by kernel_rfl
theorem zx6 : (Tryz.prog.fieldsOf 69).toList.map (fun f => (f.name, f.type, f.offset)) = [("Root", 23, 0), ("Parent", 23, 32), ("Slot", 30, 64), ("Just", 30, 65)] := by kernel_rfl
@[go_sem ↓] theorem ywz (ρ : Operand → Value) (dst : Option Tmp) (p : Nat × Operand) (ps : List (Nat × Operand)) (ty : TypeId) (pos : String) (after : Array Edge) (guard : Option (Nat × Bool)) (w : World) :
  (execOp ρ { dst, op := .build 69 (p :: ps).toArray, type := ty, pos, after, guard }).run Tryz.prog w = zhu ((zi1 places_bk (bk zbk) ((p.1, ρ p.2) :: ps.map fun p => (p.1, ρ p.2))).map .agg) w (zbe Tryz.prog ρ { dst, op := .build 69 (p :: ps).toArray, type := ty, pos, after, guard } w) :=
 zcb yfp zkz ydc ρ dst (p :: ps).toArray ty pos after guard w
attribute [go_sem] places_bk zhr
theorem zk8 (x : Bk) : bkL x = ([]) ++ ((rc x.root).toList ++ ((rc x.parent).toList ++ ([num x.slot] ++ ([num x.just])))) ∧ ([] : List Value).length = 0 := by
 constructor
 ·
  unfold bkL; simp
 ·
  rfl
theorem yba {w : World} {b off : Nat} {x : Bk} (h : w.rangeAt b off (bkL x)) : ldA w (.pointer (some ⟨b, off + 0, none⟩)) 32 = some (rc x.root) := zc3 h (zk8 x).1 (zk8 x).2 (zar _)
theorem zsy {w : World} {g : Nat} {t : TypeId} {fr : Nat × Nat} {x : Bk} (h : w.heap[g]? = some (.cells (bk x) t fr)) : ldA w (.pointer (some ⟨g, 0, none⟩)) 32 = some (rc x.root) := by have := yba (x := x) (zai h); rwa [Nat.zero_add] at this
theorem z3m (x : Bk) (y : Rt) : zax (bk x) 0 (rc y) = bk { x with root := y } := by
 rw [za0 (c := bk x) (zk8 x).1 (zk8 x).2 (by simp [zar])]
 simp [bk, bkL]
theorem zhm (x : Bk) : bkL x = ((rc x.root).toList) ++ ((rc x.parent).toList ++ ([num x.slot] ++ ([num x.just]))) ∧ ((rc x.root).toList : List Value).length = 32 := by
 constructor
 ·
  unfold bkL; simp
 ·
  simp [zar]
theorem z1d {w : World} {b off : Nat} {x : Bk} (h : w.rangeAt b off (bkL x)) : ldA w (.pointer (some ⟨b, off + 32, none⟩)) 32 = some (rc x.parent) := zc3 h (zhm x).1 (zhm x).2 (zar _)
theorem zx5 {w : World} {g : Nat} {t : TypeId} {fr : Nat × Nat} {x : Bk} (h : w.heap[g]? = some (.cells (bk x) t fr)) : ldA w (.pointer (some ⟨g, 32, none⟩)) 32 = some (rc x.parent) := by have := z1d (x := x) (zai h); rwa [Nat.zero_add] at this
theorem zya (x : Bk) (y : Rt) : zax (bk x) 32 (rc y) = bk { x with parent := y } := by
 rw [za0 (c := bk x) (zhm x).1 (zhm x).2 (by simp [zar])]
 simp [bk, bkL]
theorem zky (x : Bk) : bkL x = ((rc x.root).toList ++ (rc x.parent).toList) ++ ([num x.slot] ++ ([num x.just])) ∧ ((rc x.root).toList ++ (rc x.parent).toList : List Value).length = 64 := by
 constructor
 ·
  unfold bkL; simp
 ·
  simp [zar]
theorem ya8 {w : World} {b off : Nat} {x : Bk} (h : w.rangeAt b off (bkL x)) : w.cell? ⟨b, off + 64, none⟩ = some (num x.slot) := zbj h (zky x).1 (zky x).2
theorem zl8 {w : World} {g : Nat} {t : TypeId} {fr : Nat × Nat} {x : Bk} (h : w.heap[g]? = some (.cells (bk x) t fr)) : w.cell? ⟨g, 64, none⟩ = some (num x.slot) := by have := ya8 (x := x) (zai h); rwa [Nat.zero_add] at this
theorem zre (x : Bk) (y : UInt64) : zax (bk x) 64 #[num y] = bk { x with slot := y } := by
 rw [za0 (c := bk x) (r := #[num y]) (zky x).1 (zky x).2 rfl]
 simp [bk, bkL]
theorem zvt (x : Bk) : bkL x = ((rc x.root).toList ++ (rc x.parent).toList ++ [num x.slot]) ++ ([num x.just] ++ ([])) ∧ ((rc x.root).toList ++ (rc x.parent).toList ++ [num x.slot] : List Value).length = 65 := by
 constructor
 ·
  unfold bkL; simp
 ·
  simp [zar]
theorem z8g {w : World} {b off : Nat} {x : Bk} (h : w.rangeAt b off (bkL x)) : w.cell? ⟨b, off + 65, none⟩ = some (num x.just) := zbj h (zvt x).1 (zvt x).2
theorem z4f {w : World} {g : Nat} {t : TypeId} {fr : Nat × Nat} {x : Bk} (h : w.heap[g]? = some (.cells (bk x) t fr)) : w.cell? ⟨g, 65, none⟩ = some (num x.just) := by have := z8g (x := x) (zai h); rwa [Nat.zero_add] at this
attribute [go_sem] z3m zya zre
theorem z99 : Tryz.prog.cellsOf 69 = 66 := by kernel_rfl
section
open Go.WideShapes Go.ChangeShapes
variable {H : Type} {enc : TypeId × Value → H} {w : World} {base : Nat} {sp : Nat → Bool} {held : Bool}
theorem ykk {fuel : Nat} {cs : List Value} {x : DataW H × List MemPlace} (hl : cs.length = 66) (h : DataW.trod enc Tryz.prog w base sp held fuel 69 cs = some x) : ∃ a : Bk, cs = bkL a := by
 obtain ⟨_, _, h0⟩ := zaw (i := 0) zkz zx6 rfl h
 rw [zc7] at h0
 obtain ⟨a0, e0⟩ := zek h0
 obtain ⟨_, _, h1⟩ := zaw (i := 1) zkz zx6 rfl h
 rw [zc7] at h1
 obtain ⟨a1, e1⟩ := zek h1
 obtain ⟨_, _, h2⟩ := zaw (i := 2) zkz zx6 rfl h
 rw [zb9] at h2
 obtain ⟨a2, e2⟩ := zdh h2
 obtain ⟨_, _, h3⟩ := zaw (i := 3) zkz zx6 rfl h
 rw [zb9] at h3
 obtain ⟨a3, e3⟩ := zdh h3
 refine ⟨⟨a0, a1, a2, a3⟩, ?_⟩
 unfold bkL
 have j0 := zbc cs 0 32
 rw [e0] at j0
 have j1 := zbc cs 32 32
 rw [e1] at j1
 have j2 := zbc cs 64 1
 rw [e2] at j2
 have j3 := zbc cs 65 1
 rw [e3] at j3
 have jl : cs.drop 66 = [] := List.drop_of_length_le (by omega)
 rw [show (65 + 1) = 66 from rfl, jl, List.append_nil] at j3
 rw [← List.drop_zero (l := cs)]
 rw [← j0]
 rw [show cs.drop (0 + 32) = cs.drop 32 from rfl, ← j1]
 rw [show cs.drop (32 + 32) = cs.drop 64 from rfl, ← j2]
 rw [show cs.drop (64 + 1) = cs.drop 65 from rfl, ← j3]
 try rfl
theorem open_bk {r : Reach} {b0 : Nat} {v : Value} {d : DataW H} {ps : List MemPlace} (hval : Value.okWide Tryz.prog w r b0 69 v) (hd : DataW.Trod enc Tryz.prog w base sp held 69 v d ps) : ∃ a : Bk, v = .agg (bk a) := by
 obtain ⟨xs, rfl, hn⟩ := okWide_struct zkz hval
 rw [z99] at hn
 obtain ⟨fuel, hf⟩ := hd
 obtain ⟨a, ha⟩ := ykk (cs := xs.toList) (by rw [Array.length_toList, hn]) hf
 exact ⟨a, by rw [show xs = bk a from Array.toList_inj.1 ha]⟩
end
attribute [irreducible] bk
end
section
variable {cnt cnt' : Lk → Bool} {ls : List Lk} {js : List Ck}
theorem z0v : zcv cnt ls js = none ↔ ∀ k, k ∈ ls → cnt k = true → k.s ∈ js → k.t ∈ js := by
 constructor
 ·
  intro h k hk hc hs
  exact yld h hk hc hs
 ·
  intro h
  unfold zcv
  rw [List.find?_eq_none]
  intro k hk hf
  unfold z57 at hf
  simp only [Bool.and_eq_true, Bool.not_eq_true', decide_eq_true_iff, decide_eq_false_iff_not] at hf
  exact hf.2.2 (h k hk hf.1 hf.2.1)
theorem yhn : ztv cnt ls js = js ↔ zcv cnt ls js = none := by
 constructor
 ·
  intro h
  have := zlu (cnt := cnt) (ls := ls) ls.length js (zxz js)
  unfold ztv at h
  rwa [h] at this
 ·
  intro h; exact zeq h _
theorem zt7 : ∀ (f : Nat) (js : List Ck), js.Nodup → (zfv cnt ls f js).Nodup
 | 0, _, h => h
 | f + 1, js, h => by
  unfold zfv
  cases e : zcv cnt ls js with
  | none => exact h
  | some k =>
   obtain ⟨_, _, _, hn⟩ := znw e
   exact zt7 f _ (List.nodup_append.2 ⟨h, by simp, fun a ha b hb => by
    rw [List.mem_singleton] at hb; subst hb; intro e2; subst e2; exact hn ha⟩)
theorem zvw : ∀ (f : Nat) (js : List Ck) (c : Ck), c ∈ zfv cnt ls f js → c ∈ js ∨ ∃ k, k ∈ ls ∧ k.t = c
 | 0, _, _, h => .inl h
 | f + 1, js, c, h => by
  unfold zfv at h
  cases e : zcv cnt ls js with
  | none => rw [e] at h; exact .inl h
  | some k =>
   rw [e] at h
   rcases zvw f _ c h with h1 | h1
   ·
    rcases List.mem_append.1 h1 with h2 | h2
    ·
     exact .inl h2
    ·
     rw [List.mem_singleton] at h2; exact .inr ⟨k, (znw e).1, h2.symm⟩
   ·
    exact .inr h1
theorem z0q : ∀ (f : Nat) (js : List Ck) (c : Ck), c ∈ js → c ∈ zfv cnt ls f js
 | 0, _, _, h => h
 | f + 1, js, c, h => by
  unfold zfv
  cases e : zcv cnt ls js with
  | none => exact h
  | some k => exact z0q f _ c (List.mem_append.2 (.inl h))
end
section
variable {l : List Nd} {ls : List Lk} {bal : List UInt64} {js : List Ck} {fin : Ck}
theorem z6c (h : zgk l ls bal = true) : zda l ls bal js = js ↔ ∀ k, k ∈ ls → cntB l bal k = true → k.s ∈ js → k.t ∈ js := by
 rw [zno h, yhn, z0v]
theorem z5a (h : js.Nodup) : (zda l ls bal js).Nodup := by
 unfold zda
 split
 ·
  exact zt7 _ _ h
 ·
  exact h
theorem z8k {c : Ck} (h : c ∈ zda l ls bal js) : c ∈ js ∨ ∃ k, k ∈ ls ∧ k.t = c := by
 unfold zda at h
 split at h
 ·
  exact zvw _ _ _ h
 ·
  exact .inl h
theorem yh3 {c : Ck} (h : c ∈ js) : c ∈ zda l ls bal js := by
 unfold zda
 split
 ·
  exact z0q _ _ _ h
 ·
  exact h
theorem yaf : zda l ls bal (zda l ls bal js) = zda l ls bal js := by
 unfold zda
 split
 ·
  exact yc9 js
 ·
  rfl
theorem zwo (h : zgk l ls bal = true) {c : Ck} : c ∈ zc4 l ls bal js ↔ c ∈ js ∧ ∃ k, k ∈ ls ∧ cntB l bal k = true ∧ k.t ∈ js ∧ k.s = c ∧ k.t.epoch.toNat = c.epoch.toNat + 1 := by
 rw [zrv h]
 unfold zt3
 rw [List.mem_filter]
 unfold ydp
 rw [List.any_eq_true]
 simp only [Bool.and_eq_true, decide_eq_true_iff]
theorem zw3 {c : Ck} : okN l fin c = true ↔ za7 l c fin = true ∧ fin.epoch.toNat < c.epoch.toNat := by
 unfold okN; rw [Bool.and_eq_true, decide_eq_true_iff]
theorem z6t : zha l ls bal js fin = fin ↔ ∀ c, c ∈ zc4 l ls bal js → okN l fin c = false := by
 constructor
 ·
  intro h c hc
  rw [← Bool.not_eq_true]
  intro hk
  have h3 := (zib zi0 (okN l fin) (zc4 l ls bal js) fin).2.2 c hc hk
  unfold zha at h
  rw [h] at h3
  have := (zw3.1 hk).2
  omega
 ·
  intro h
  rcases zq7 (l := l) (ls := ls) (bal := bal) (js := js) (fin := fin) with e | ⟨h1, h2, h3⟩
  ·
   exact e
  ·
   have := h _ h1
   rw [zw3.2 ⟨h2, h3⟩] at this
   cases this
theorem yg1 : zha l ls bal js (zha l ls bal js fin) = zha l ls bal js fin := by
 rw [z6t]
 intro c hc
 rw [← Bool.not_eq_true]
 intro hk
 obtain ⟨h1, h2⟩ := zw3.1 hk
 have h3 := (zib zi0 (okN l fin) (zc4 l ls bal js) fin).2.2 c hc
 change okN l fin c = true → c.epoch.toNat ≤ (zha l ls bal js fin).epoch.toNat at h3
 rcases zq7 (l := l) (ls := ls) (bal := bal) (js := js) (fin := fin) with e | ⟨_, g2, g3⟩
 ·
  rw [e] at hk h2 h3
  have := h3 hk
  omega
 ·
  have := h3 (zw3.2 ⟨zjk h1 g2, by omega⟩)
  omega
theorem yis (hf : fin ∈ js) : zha l ls bal js fin ∈ js := by
 rcases zq7 (l := l) (ls := ls) (bal := bal) (js := js) (fin := fin) with e | ⟨h1, _, _⟩
 ·
  rw [e]; exact hf
 ·
  unfold zc4 at h1
  split at h1
  ·
   unfold zt3 at h1; exact (List.mem_filter.1 h1).1
  ·
   cases h1
end
def AgreeT (l l' : List Nd) (p : Rt → Prop) : Prop := ∀ c d : Ck, p c.root → p d.root → za7 l c d = za7 l' c d
theorem zjx {l : List Nd} {x : Nd} (h : MayT l) (h' : MayT (l ++ [x])) {r : Rt} (hr : inT l r = true) : zay (l ++ [x]) r = zay l r := by
 obtain ⟨i, hi, e1, e2⟩ := ztl h hr
 have := zl6 h' (i := i) (by rw [List.length_append, List.length_singleton]; omega)
 rw [zg6 x hi, e2] at this
 rw [this, e1]
theorem zq4 {l : List Nd} {x : Nd} (h : MayT l) (h' : MayT (l ++ [x])) {r : Rt} (hr : inT l r = true) : inT (l ++ [x]) r = true := by rw [zhs, zjx h h' hr, ← zhs]; exact hr
theorem z9j {l : List Nd} {x : Nd} (h : MayT l) (h' : MayT (l ++ [x])) : AgreeT l (l ++ [x]) (fun r => inT l r = true) := by
 intro c d hc hd
 unfold za7
 rw [zjx h h' hc, zjx h h' hd]
 obtain ⟨i, hi, e1, _⟩ := ztl h hc
 obtain ⟨k, hk, e2, _⟩ := ztl h hd
 have hl : (l ++ [x]).length = l.length + 1 := by simp
 rw [e1, e2, zeg h hk hi, zeg h' (by omega) (by omega), zv2 h h' k i hi]
theorem zpn {l : List Nd} (h : MayT l) {i : Nat} (hi : i < l.length) {r : Rt} : inT (cutL l i) r = true ↔ ∃ a, zcs l i a = true ∧ (nd l a).root = r := by
 rw [z45 (ziw h hi)]
 constructor
 ·
  rintro ⟨m, hm, e⟩
  obtain ⟨k, hk, rfl⟩ := zyt hm
  exact ⟨k, hk, by rw [zge hk] at e; exact e⟩
 ·
  rintro ⟨a, ha, e⟩
  exact ⟨zcn l i a, zhv ha, by rw [zge ha]; exact e⟩
theorem zmi {l : List Nd} (h : MayT l) {i a : Nat} (hi : i < l.length) (ha : zcs l i a = true) : zay (cutL l i) (nd l a).root = (zcn l i a : Int) := by
 obtain ⟨h1, h2⟩ := zbg.1 ha
 rw [zwt h hi h1, if_pos h2]
theorem z1g {l : List Nd} (h : MayT l) {i : Nat} (hi : i < l.length) : AgreeT l (cutL l i) (fun r => inT (cutL l i) r = true) := by
 intro c d hc hd
 obtain ⟨a, ha, ea⟩ := (zpn h hi).1 hc
 obtain ⟨b, hb, eb⟩ := (zpn h hi).1 hd
 have hm := ziw h hi
 unfold za7
 rw [← ea, ← eb, zmi h hi ha, zmi h hi hb, zl6 h (zbg.1 ha).1, zl6 h (zbg.1 hb).1, zeg h (zbg.1 hb).1 (zbg.1 ha).1, zeg hm (zhv hb) (zhv ha), zru h hi hb a ha]
section
variable {l l' : List Nd} {p : Rt → Prop} {bal : List UInt64}
theorem AgreeT.cnt (h : AgreeT l l' p) {k : Lk} (hs : p k.s.root) (ht : p k.t.root) : cntB l bal k = cntB l' bal k := by unfold cntB; rw [h _ _ ht hs]
theorem AgreeT.more (h : AgreeT l l' p) {ls ls' : List Lk} {js js' : List Ck} (hl : zgk l ls bal = true) (hl' : zgk l' ls' bal = true)
  (hin : ∀ x, x ∈ ls' → x ∈ ls ∧ p x.s.root ∧ p x.t.root) (hj : ∀ c, c ∈ js' → c ∈ js) (ht : ∀ x, x ∈ ls' → x.t ∈ js → x.t ∈ js') (hm : zda l ls bal js = js) : zda l' ls' bal js' = js' := by
 rw [z6c hl']
 rw [z6c hl] at hm
 intro k hk hc hs
 obtain ⟨h1, h2, h3⟩ := hin k hk
 exact ht k hk (hm k h1 (by rw [h.cnt h2 h3]; exact hc) (hj _ hs))
theorem AgreeT.next (h : AgreeT l l' p) {ls ls' : List Lk} {js js' : List Ck} {fin : Ck} (hl : zgk l ls bal = true) (hl' : zgk l' ls' bal = true)
  (hin : ∀ x, x ∈ ls' → x ∈ ls ∧ p x.s.root ∧ p x.t.root) (hj : ∀ c, c ∈ js' → c ∈ js ∧ p c.root) (hf : p fin.root) (hm : zha l ls bal js fin = fin) : zha l' ls' bal js' fin = fin := by
 rw [z6t] at hm ⊢
 intro c hc
 obtain ⟨h1, k, h2, h3, h4, h5, h6⟩ := (zwo hl').1 hc
 obtain ⟨g1, g2, g3⟩ := hin k h2
 have := hm c ((zwo hl).2 ⟨(hj c h1).1, k, g1, by rw [h.cnt g2 g3]; exact h3, (hj _ h4).1, h5, h6⟩)
 unfold okN at this ⊢
 rwa [← h c fin (hj c h1).2 hf]
end
theorem ymi {l : List Lk} {s t : Ck} {v : Int} {x : Lk} (h : x ∈ putK l s t v) : (∃ y, y ∈ l ∧ x.s = y.s ∧ x.t = y.t) ∨ (x.s = s ∧ x.t = t) := by
 by_cases he : errK l s t v = 0
 ·
  by_cases ha : atK l s t < l.length
  ·
   rw [zkf he ha] at h
   rcases List.mem_or_eq_of_mem_set h with h1 | h1
   ·
    exact .inl ⟨x, h1, rfl, rfl⟩
   ·
    exact .inl ⟨_, z5z ha, by rw [h1], by rw [h1]⟩
  ·
   rw [z5h he ha] at h
   rcases List.mem_append.1 h with h1 | h1
   ·
    exact .inl ⟨x, h1, rfl, rfl⟩
   ·
    rw [List.mem_singleton] at h1; subst h1; exact .inr ⟨rfl, rfl⟩
 ·
  rw [zpi he] at h; exact .inl ⟨x, h, rfl, rfl⟩
theorem yqc {l : List Lk} : mayL l = true ↔ ((∀ x, x ∈ l → okK x) ∧ l.Pairwise fun a b => oneB b a = false) ∧ l.length ≤ 16 := by
 rw [zex]
 refine and_congr ?_ Iff.rfl
 rw [List.pairwise_iff_getElem]
 constructor
 ·
  intro h
  refine ⟨fun x hx => ?_, fun i j hi hj hij => ?_⟩
  ·
   obtain ⟨i, hi, rfl⟩ := List.mem_iff_getElem.1 hx
   rw [← zcm hi]; exact (h i hi).1
  ·
   rw [← zcm hi, ← zcm hj]; exact (h j hj).2 i hij
 ·
  rintro ⟨h1, h2⟩ i hi
  refine ⟨h1 _ (z5z hi), fun k hk => ?_⟩
  rw [zcm hi, zcm (Nat.lt_trans hk hi)]
  exact h2 k i (Nat.lt_trans hk hi) hi hk
theorem z4o {l : List Lk} (p : Lk → Bool) (h : mayL l = true) : mayL (l.filter p) = true := by
 rw [yqc] at h ⊢
 exact ⟨⟨fun x hx => h.1.1 x (List.mem_filter.1 hx).1, h.1.2.filter p⟩, Nat.le_trans (List.length_filter_le _ _) h.2⟩
theorem yrz {t : List Nd} {v : Vt} {z : Int} {r : Rt} {ep : UInt64} (hm : mayV v = true) (hz : 0 ≤ z ∧ z < v.l.length) (hr : inT t r = true) (hv : ∀ i, i < v.l.length → (lat v.l i).has = true → inT t (lat v.l i).root = true) :
  mayV (putV v z r ep) = true ∧ (putV v z r ep).l.length = v.l.length ∧ ∀ i, i < (putV v z r ep).l.length → (lat (putV v z r ep).l i).has = true → inT t (lat (putV v z r ep).l i).root = true := by
 have hp := (ykv (r := r) (ep := ep) hm hz).1
 have hzl : z.toNat < v.l.length := by omega
 refine ⟨by rw [hp]; exact ym1 hm hzl, yf5, fun i hi hh => ?_⟩
 rw [yf5] at hi
 rw [hp] at hh ⊢
 by_cases e : i = z.toNat
 ·
  subst e
  rcases zkq v z.toNat r ep with ⟨f, _⟩ | ⟨f, _⟩ | ⟨f, _⟩
  ·
   rw [zia f] at hh ⊢; exact hv _ hi hh
  ·
   rw [zmq f]; show inT t (lat (v.l.set z.toNat _) z.toNat).root = true; rw [zl9 hzl, if_pos rfl]; exact hr
  ·
   rw [znb f] at hh
   have hh' : (lat (v.l.set z.toNat zlt) z.toNat).has = true := hh
   rw [zl9 hzl, if_pos rfl] at hh'
   cases hh'
 ·
  rw [yah hzl e] at hh ⊢
  exact hv i hi hh
end Go.Proofs.YtmihlihlpdkdcaaGreat
