import Derived.RangeFuncOwn
import Derived.Test.YtkalofboioffiaaGreatT29
namespace Go.Proofs.YtkalofboioffiaaGreat
open Go.RowKit
set_option maxRecDepth 200000
set_option maxHeartbeats 64000000
section
open Go.Maps
def setC : List Ck → DataW Unit
 | [] => .map []
 | c :: l => (setC l).put (ck c) (.agg [])
theorem zjo : ∀ l, Tidy (setC l)
 | [] => tidy_empty
 | _ :: l => (zjo l).put (zys _) _
theorem zlz (c : Ck) : ∀ l, Maps.has (setC l) (ck c) = decide (c ∈ l)
 | [] => by rw [decide_eq_false List.not_mem_nil]; rfl
 | a :: l => by
  unfold setC
  by_cases e : a = c
  ·
   subst e
   rw [has_put_same (zjo l).isMap (zys a)]
   exact (decide_eq_true List.mem_cons_self).symm
  ·
   rw [has_put_other (fun h => e (yic h).symm), zlz c l]
   exact decide_eq_decide.2 ⟨List.mem_cons_of_mem _, fun h => (List.mem_cons.1 h).resolve_left (fun h2 => e h2.symm)⟩
def OwnsC (W : World) (b N : Nat) (S : List Ck) : Prop := ∃ (n : Nat) (k : List Ck), n ≤ N ∧ (∀ c, c ∈ k ↔ c ∈ S) ∧ W.ownsMap Tryz.prog 36 (unitElem (H := Unit)) b n (setC k)
theorem OwnsC.keep {W W' : World} {b N : Nat} {S : List Ck} (h : OwnsC W b N S) (g : Below W.heap.size W W') : OwnsC W' b N S := by
 obtain ⟨n, k, h1, h2, h3⟩ := h
 exact ⟨n, k, h1, h2, zct g h3⟩
theorem OwnsC.blk {W W' : World} {b N : Nat} {S : List Ck} (h : OwnsC W b N S) (e : W'.heap[b]? = W.heap[b]?) : OwnsC W' b N S := by
 obtain ⟨n, k, h1, h2, es, clock, hb, h3⟩ := h
 exact ⟨n, k, h1, h2, es, clock, e.trans hb, h3⟩
theorem OwnsC.lt {W : World} {b N : Nat} {S : List Ck} (h : OwnsC W b N S) : b < W.heap.size := by
 obtain ⟨n, k, h1, h2, es, clock, hb, h3⟩ := h
 exact (Array.getElem?_eq_some_iff.1 hb).1
theorem OwnsC.same {W : World} {b N M : Nat} {S T : List Ck} (h : OwnsC W b N S) (hN : N ≤ M) (e : ∀ c, c ∈ S ↔ c ∈ T) : OwnsC W b M T := by
 obtain ⟨n, k, h1, h2, h3⟩ := h
 exact ⟨n, k, Nat.le_trans h1 hN, fun c => (h2 c).trans (e c), h3⟩
theorem z1w (w : World) : OwnsC (w.alloc (.map #[] 0)) w.heap.size 0 [] := ⟨0, [], Nat.le_refl _, fun _ => Iff.rfl, World.ownsMap_made _ _ _ _⟩
theorem zjz (w : World) : (zeroValue 135).run Tryz.prog w = .ok (.agg #[]) w := by kernel_rfl
end
section
open Go.Maps
theorem ztc {a w w' : World} {row : Option Nat} (h : Below a.heap.size a w) (k : w.grownBy w' row) : a.grownBy w' row :=
 ⟨k.os.trans h.os, k.tape.trans h.tape, k.output.trans h.output, Nat.le_trans h.size k.size, fun i hi hr => (k.block i (Nat.lt_of_lt_of_le hi h.size) hr).trans (h.block i hi)⟩
theorem zut {P : Program} {T k e : TypeId} (hu : P.underlying T = some (.map k e)) (n : Int) (w : World) : (Instr.makeMap T (some (.int .i64 n))).run P w = .ok (.map (some w.heap.size)) (w.alloc (.map #[] 0)) := by
 simp only [Instr.makeMap]
 simp [run_underlying hu, asInt]
 rfl
theorem zlr (b N : Nat) (S : List Ck) (c : Ck) (w : World) (h : OwnsC w b N S) :
  Calls Tryz.prog 156 #[.map (some b), .agg (cc c)] w fun e w' => e = .returned (.bool (decide (c ∈ S))) ∧ Below w.heap.size w w' := by
 obtain ⟨n, k, h1, h2, h3⟩ := h
 have hr : decide (c ∈ S) = Maps.has (setC k) (ck c) := by rw [zlz]; exact decide_eq_decide.2 (h2 c).symm
 rw [hr]
 obtain ⟨W0, hW0⟩ : ∃ W0, W0 = w.alloc (.cells (cc c) 36) := ⟨_, rfl⟩
 have HB : Hid (Below w.heap.size w W0) := by rw [hW0]; exact below1
 have HO : Hid (W0.ownsMap Tryz.prog 36 (unitElem (H := Unit)) b n (setC k)) := zct HB.out h3
 have z0 : ldA W0 (.pointer (some ⟨w.heap.size, 0, none⟩)) 33 = some (cc c) := by rw [hW0]; exact (ck_v (heap_alloc_last w _)).a
 have HW := Lib.hid hW0
 obtain ⟨D, hD⟩ : ∃ D, D = setC k := ⟨_, rfl⟩
 rw [← hD] at HO ⊢
 clear hW0 h1 h2 h3 hr hD
 go_enter Tryz.func156, Tryz.ntmps156
 go_upto_region 1 with fail
 rw [← HW.out]
 go_wp2_with (at_lookup; refine wpList_lookup_own_unit _ rfl _ _ 188 rfl 36 135 keyed_cc Tryz.underlying188 (zjz _) b n D rfl HO.out _ _ rfl (zi3 c) ?_)
 go_ret
 exact ⟨rfl, zab HB.out below1⟩
theorem zq6 (b N : Nat) (S : List Ck) (c : Ck) (w : World) (h : OwnsC w b N S) (hN : N ≤ 10000) :
  Calls Tryz.prog 157 #[.map (some b), .agg (cc c)] w fun e w' => (∃ v, e = .returned v) ∧ OwnsC w' b (N + 1) (S ++ [c]) ∧ w.grownBy w' (some b) := by
 obtain ⟨n, k, h1, h2, h3⟩ := h
 have HE : Hid (∀ w', w'.ownsMap Tryz.prog 36 (unitElem (H := Unit)) b (n + 1) ((setC k).put (ck c) (.agg [])) → OwnsC w' b (N + 1) (S ++ [c])) := fun w' g => ⟨n + 1, c :: k, by omega, fun d => by rw [List.mem_cons, List.mem_append, List.mem_singleton, h2 d]; exact Or.comm, g⟩
 have HN : Hid (n ≤ 10000) := by show n ≤ 10000; omega
 have HO := Lib.hid h3
 obtain ⟨D, hD⟩ : ∃ D, D = setC k := ⟨_, rfl⟩
 rw [← hD] at HO HE
 clear h1 h2 h3 hD
 go_enter Tryz.func157, Tryz.ntmps157
 go_wp2_with (at_mapUpdate; refine wpList_mapUpdate_own _ rfl _ _ _ 188 rfl 36 135 keyed_cc Tryz.underlying188 (unitElem (H := Unit)) b n _ rfl (HO.out.alloc _) (by unfold maxLen; have := HN.out; omega) _ _ _ rfl rfl (zi3 c) _ [] unitElem_mk ?_; intro w1 hown1 hgrow1)
 go_end0
 exact ⟨⟨_, rfl⟩, HE.out _ hown1, ztc below1 hgrow1⟩
theorem zm6 (p : Option Addr) (n cp : Nat) (l : List Ck) (w : World) (h : SlE Ecc w (.slice p n cp) l) (hl : l.length = n) (hn : n ≤ 2000) :
  Calls Tryz.prog 155 #[.slice p n cp] w fun e w' => e = .returned (.map (some w.heap.size)) ∧ OwnsC w' w.heap.size n l ∧ Below w.heap.size w w' := by
 have hmm := zut (P := Tryz.prog) Tryz.underlying188
 have K := Lib.hid h
 have HL := Lib.hid hl
 have HN := Lib.hid hn
 clear h hl hn
 go_enter Tryz.func155, Tryz.ntmps155
 go_wp2_with fail
 go_loopw [11] (fun i wr => ∃ j : Nat, j ≤ n ∧ i = .int .i64 (j : Int) ∧ OwnsC wr w.heap.size j (l.take j) ∧ Below w.heap.size w wr) (fun i _ => n - (intOf i).toNat)
 case atStart => exact ⟨0, Nat.zero_le _, rfl, z1w _, below1⟩
 case round =>
  obtain ⟨j, hj, rfl, hown, hb⟩ := hrel
  have HO := Lib.hid hown
  have HBB := Lib.hid hb
  clear hown hb
  by_cases hlt : j < n
  ·
   have i0 : (0 : Int) ≤ (j : Int) := by omega
   have i1 : (j : Int) < (n : Int) := by omega
   have d0 : decide ((j : Int) < (n : Int)) = true := decide_eq_true i1
   have d0' : decide (j < n) = true := decide_eq_true hlt
   have u1 : (j : Int) + 1 < 10000 := by have := HN.out; omega
   have HLT := Lib.hid hlt
   obtain ⟨b1, o1, rfl, q1, x1⟩ := zdq K.out (by have := HL.out; omega)
   have y1 := Go.Proofs.YtkalofboioffiaaGreat.keep HBB.out (zgi x1 (i := j) (by have := HL.out; omega))
   have HS : Hid (l.take (j + 1) = l.take j ++ [ckAt l j]) := by
    show _ = _
    rw [zcv (by have := HL.out; omega), List.take_add_one, List.getElem?_eq_getElem (by have := HL.out; omega)]
    rfl
   generalize ckAt l j = C at *
   have HPt := Lib.hid (fun W (g : Below wr.heap.size wr W) => zq6 w.heap.size j (l.take j) C W (HO.out.keep g) (by have := HN.out; have := HLT.out; omega))
   clear x1 q1 hlt hj
   go_wp2_with fail
   refine (HPt.out _ below1).mono ?_
   rintro e w2 ⟨⟨v, rfl⟩, hown, hg⟩
   rw [← HS.out] at hown
   have HO2 := Lib.hid hown
   have HB2 : Hid (Below w.heap.size w w2) := (zab HBB.out below1).grown hg (by simp; have := HO.out.lt; omega) (fun k hk => by cases hk; exact Nat.le_refl _)
   clear hown hg
   go_wp2_with fail
   go_roundw
   case rel => exact ⟨j + 1, HLT.out, by go_num, HO2.out, HB2.out⟩
   case measure => simp [intOf]; have := HLT.out; omega
  ·
   obtain rfl : j = n := by omega
   have d0 : decide ((j : Int) < (j : Int)) = false := decide_eq_false (Int.lt_irrefl _)
   have d0' : decide (j < j) = false := decide_eq_false (Nat.lt_irrefl _)
   have HF : Hid (OwnsC wr w.heap.size j l) := by
    have := HO.out
    rwa [List.take_of_length_le (by rw [HL.out]; exact Nat.le_refl _)] at this
   clear hlt
   go_wp2_with fail
   go_ret
   exact ⟨rfl, HF.out, HBB.out⟩
theorem yfk (v : Value) (l : List Ck) (w : World) (h : SlE Ecc w v l) (hn : l.length ≤ 2000) :
  Calls Tryz.prog 155 #[v] w fun e w' => e = .returned (.map (some w.heap.size)) ∧ OwnsC w' w.heap.size l.length l ∧ Below w.heap.size w w' := by
 have k := h
 obtain ⟨p, cp, rfl, _⟩ := zal h
 exact zm6 p _ cp l w k rfl hn
end
section
open Go.Shelf
open Go.RowKit Go.Shelf
structure Tn (bs : Nat → Prop) (W W' : World) : Prop where
 os : W'.os = W.os
 tape : W'.tape = W.tape
 output : W'.output = W.output
 size : W.heap.size ≤ W'.heap.size
 block : ∀ k, k < W.heap.size → ¬ bs k → W'.heap[k]? = W.heap[k]?
section
variable {bs : Nat → Prop} {W W' W'' : World}
theorem Tn.refl (bs : Nat → Prop) (W : World) : Tn bs W W := ⟨rfl, rfl, rfl, Nat.le_refl _, fun _ _ _ => rfl⟩
theorem Tn.trans (h : Tn bs W W') (k : Tn bs W' W'') : Tn bs W W'' :=
 ⟨k.os.trans h.os, k.tape.trans h.tape, k.output.trans h.output, Nat.le_trans h.size k.size, fun b hb hn => (k.block b (Nat.lt_of_lt_of_le hb h.size) hn).trans (h.block b hb hn)⟩
theorem Tn.of_grown {row : Option Nat} (h : W.grownBy W' row) (hr : ∀ k, row = some k → bs k) : Tn bs W W' := ⟨h.os, h.tape, h.output, h.size, fun k hk hn => h.block k hk fun e => hn (hr k e.symm)⟩
theorem Tn.heap (h : Tn bs W W') {k : Nat} {o : Obj} (hk : W.heap[k]? = some o) (hn : ¬ bs k) : W'.heap[k]? = some o := (h.block k (Array.getElem?_eq_some_iff.1 hk).1 hn).trans hk
theorem Tn.below (h : Tn bs W W') {B : Nat} {w : World} (g : Below B w W) (hB : ∀ k, bs k → B ≤ k) (hs : B ≤ W.heap.size) : Below B w W' :=
 ⟨h.os.trans g.os, h.tape.trans g.tape, h.output.trans g.output, Nat.le_trans g.size h.size, fun k hk => (h.block k (by omega) (fun e => by have := hB k e; omega)).trans (g.block k hk)⟩
theorem Tn.own {α : Type} {E : Lie α} {base : Nat} {v : Value} {l : List α} (h : Tn bs W W') (ho : OwnE E W base v l) (hn : ∀ k, v.ownBlock = some k → ¬ bs k) : OwnE E W' base v l :=
 zc8 ho fun b hb hk => h.block b hb (hn b hk)
theorem zjh {α : Type} {E : Lie α} {base : Nat} {v : Value} {l : List α} (ho : OwnE E W base v l) {k : Nat} {o : Obj} (hk : v.ownBlock = some k) (hb : W.heap[k]? = some o) : o.isCells = true := by
 rcases ho.2 with ⟨rfl, _⟩ | ⟨g, cap, cur, rfl, _, hg, _⟩
 ·
  cases hk
 ·
  have e : g = k := by injection hk
  subst e
  rw [hg] at hb
  cases hb
  rfl
theorem z1u {α : Type} {B : Nat} {I : α → World → Prop} (h : ∀ s W W' (bs : Nat → Prop), I s W → Tn bs W W' → (∀ k, bs k → B ≤ k ∧ ∃ o, W.heap[k]? = some o ∧ o.isCells = false) → I s W') : OwnFrom B I := by
 intro s W W' row hs hg hr
 refine h s W W' (fun k => row = some k) hs (Tn.of_grown hg fun k e => e) fun k e => ?_
 obtain ⟨h1, h2⟩ := hr k e
 exact ⟨h1, h2⟩
end
def mkD (D : Nat) : Deferred := { target := .collected D, args := #[] }
theorem zyz {F : Fence} {n : Nat} {P : Program} {fn : Func} {tmps : Array Value} {R : Ending → World → Prop} : ∀ (ds : List Nat) (W : World), ds.Nodup → (∀ D ∈ ds, W.heap[D]? = some (.deferred (some []))) →
  (∀ W', Tn (· ∈ ds) W W' → ∃ v, (results fn tmps).run P W' = .ok v W' ∧ R (.returned v) W') → LeavesInM F n P fn tmps R (ds.map mkD) .returning W
 | [], W, _, _, h => h W (Tn.refl _ _)
 | D :: ds, W, hd, hK, h => by
  have hKD := hK D List.mem_cons_self
  rw [List.nodup_cons] at hd
  have ht : Tn (· = D) W (W.putObj D (.deferred none)) := Tn.of_grown (grownBy_putObj' W D (.deferred none)) (fun k e => by cases e; rfl)
  refine ⟨by simp, .inl ⟨D, _, rfl, run_takeDeferred hKD, ?_⟩⟩
  refine zyz ds _ hd.2 (fun E hE => ht.heap (hK E (List.mem_cons_of_mem _ hE)) (fun e => hd.1 (by rw [← e]; exact hE))) fun W' hW' => ?_
  refine h W' ?_
  have t1 : Tn (· ∈ D :: ds) W (W.putObj D (.deferred none)) := ⟨ht.os, ht.tape, ht.output, ht.size, fun k hk hn => ht.block k hk (fun e => hn (by rw [e]; exact List.mem_cons_self))⟩
  have t2 : Tn (· ∈ D :: ds) (W.putObj D (.deferred none)) W' := ⟨hW'.os, hW'.tape, hW'.output, hW'.size, fun k hk hn => hW'.block k hk (fun e => hn (List.mem_cons_of_mem _ e))⟩
  exact t1.trans t2
section
variable {P : Program} {ops : Array Oper} {rest : List Oper} {o : Oper} {a : Act} {Q : Exit → Act → World → Prop}
end
end
section
open Go.Shelf
attribute [local go_sem] Oper.semAt_some
@[local go_sem ↓ high] theorem yd7 {P : Program} (l : Option Nat) (ρ : Operand → Value) (o : Oper) (w : World) (h : ∀ c, o.op ≠ .defer c) : (Oper.semAt l ρ o).run P w = (execOp ρ o).run P w := by rw [Oper.semAt_eq l ρ o h]
theorem z65 {s0 n₀ D b N : Nat} {S : List Ck} {W W' : World} (h : OwnsC W b N S) (g : But s0 n₀ D W W') (h1 : b < n₀) (h2 : b ≠ D) : OwnsC W' b N S := h.blk (g.block b h1 h2)
theorem But.map {s0 n₀ D : Nat} {A W W' : World} (h : But s0 n₀ D A W) (g : W.grownBy W' (some D)) (hs : s0 ≤ n₀) (hn : n₀ ≤ W.heap.size) (hD : s0 ≤ D) : But s0 n₀ D A W' :=
 h.trans ⟨(Below.refl _ _).grown g (Nat.le_trans hs hn) (fun k hk => by cases hk; exact hD), fun k hk hne => g.block k (Nat.lt_of_lt_of_le hk hn) (fun e => by cases e; exact hne rfl)⟩
theorem ydd (a : UInt64) : IntKind.u64.wrap ((a.toNat : Int) + 1) = ((a + 1).toNat : Int) := by
 have h3 : (a + 1).toNat = (a.toNat + 1) % 18446744073709551616 := by rw [UInt64.toNat_add]; rfl
 rw [h3, IntKind.wrap_u64]
 omega
structure Fiw (s0 n₀ D bt bs bm : Nat) (js : List Ck) (w : World) (pre : List Lk) (W : World) : Prop where
 src : OwnsC W D pre.length (srcs js pre)
 but : But s0 n₀ D w W
theorem yfa {s0 n₀ D bt bs bm B : Nat} {js : List Ck} {w : World} (hn : n₀ ≤ B) (hD : D < n₀) (h0 : n₀ ≤ w.heap.size) (hs : s0 ≤ n₀) : OwnFrom B (fun (pre : List Lk) W => Fiw s0 n₀ D bt bs bm js w pre W) := fun pre X Y row h hg hr =>
 ⟨h.src.blk (hg.block D h.src.lt (fun e => by have := (hr D e.symm).1; omega)), But.own (α := Unit) (B := B) hn h0 hs [] X Y row h.but hg hr⟩
theorem zud (s : SlV) (u vb : Value) (p : Option Addr) (n cp : Nat) (l : List Nd) (ls : List Lk) (bal : List UInt64) (js : List Ck) (w : World) (h : SlE Ene w (sv s) l) (h1 : SlE Elk w u ls) (h2 : SlE Enum w vb bal) (h3 : SlE Ecc w (.slice p n cp) js) (hl : js.length = n) (hn : n ≤ 2000) (hm : ls.length ≤ 1000) :
  Calls Tryz.prog 160 #[.agg (tr ⟨s⟩), u, vb, .slice p n cp] w fun e w' => ∃ v, e = .returned v ∧ OwnE Ecc w' w.heap.size v (zb1 l ls bal js) ∧ Below w.heap.size w w' := by
 have HC := Lib.hid (fun W (g : Below w.heap.size w W) => zpl s u vb l ls bal W (zad g h) (zad g h1) (zad g h2) hm)
 have HG1 := Lib.hid (fun W (g : Below w.heap.size w W) => zm6 p n cp js W (zad g h3) hl hn)
 have HG2 := Lib.hid (fun W => zm6 none 0 0 [] W (zbg _ _ _ _) rfl (by omega))
 obtain ⟨r, hr⟩ : ∃ r, r = zb1 l ls bal js := ⟨_, rfl⟩
 rw [← hr]
 obtain ⟨L, hL⟩ : ∃ L, L = cntL l ls bal := ⟨_, rfl⟩
 have HR : Hid (r = js.filter fun c => decide (c ∈ srcs js L)) := by show _ = _; rw [hr, hL]; exact zmz
 have HLl : Hid (L.length ≤ 1000) := by show _ ≤ _; rw [hL]; exact Nat.le_trans (zyg _ _ _) hm
 have HLe := Lib.hid hL
 have HL := Lib.hid hl
 have HN := Lib.hid hn
 have K := Lib.hid h3
 obtain ⟨W0, hW0⟩ : ∃ W0, W0 = w.alloc (.cells (tr ⟨s⟩) 24) := ⟨_, rfl⟩
 have HB : Hid (Below w.heap.size w W0) := by rw [hW0]; exact below1
 have T0 : Hid (W0.heap[w.heap.size]? = some (.cells (tr ⟨s⟩) 24 (0, 0))) := by rw [hW0]; exact heap_alloc_last w _
 have HW := Lib.hid hW0
 clear hW0 h h1 h2 h3 hl hn hm hr hL
 refine callsIn_wide.1 (callsIn_of_wp_marks (n := 3) Tryz.func160 rfl trivial (wpIn_wide.2 ?_))
 simp only [Tryz.ntmps160, List.size_toArray, List.length_cons, List.length_nil, Nat.reduceAdd, Nat.reduceSub, Array.replicate_succ, Array.replicate_zero, List.push_toArray, List.append_toArray, List.nil_append, List.cons_append]
 go_upto_region 1 with fail
 rw [← HW.out]
 go_wp2_with fail
 refine (HG1.out W0 HB.out).mono ?_
 rintro e w1 ⟨rfl, hown, g⟩
 have OT := Lib.hid hown
 have G1 := Lib.hid (zab HB.out g)
 have HZ0 : Hid (w.heap.size < W0.heap.size) := (Array.getElem?_eq_some_iff.1 T0.out).1
 replace T0 := Lib.hid (zac g T0.out)
 obtain ⟨bm, hbm⟩ : ∃ bm, bm = W0.heap.size := ⟨_, rfl⟩
 rw [← hbm] at OT HZ0 ⊢
 clear g hown HW HB hbm HG1
 go_upto_region 2 with fail
 obtain ⟨W2, hW2⟩ : ∃ W2, W2 = w1.alloc (.cells #[.map (some bm)] 188) := ⟨_, rfl⟩
 rw [← hW2]
 have g2 : Below w1.heap.size w1 W2 := by rw [hW2]; exact below1
 have BT : Hid (W2.heap[w1.heap.size]? = some (.cells #[.map (some bm)] 188 (0, 0))) := by show _ = _; rw [hW2]; exact heap_alloc_last w1 _
 have HZ1 : Hid (bm < w1.heap.size) := OT.out.lt
 replace OT := Lib.hid (OT.out.keep g2)
 replace T0 := Lib.hid (zac g2 T0.out)
 have G2 := Lib.hid (zab G1.out g2)
 obtain ⟨bt, hbt⟩ : ∃ bt, bt = w1.heap.size := ⟨_, rfl⟩
 rw [← hbt] at BT HZ1 ⊢
 clear hW2 g2 hbt G1
 go_wp2_with fail
 refine (HG2.out W2).mono ?_
 rintro e w3 ⟨rfl, hown, g⟩
 have OS := Lib.hid hown
 have HZ2 : Hid (bt < W2.heap.size) := (Array.getElem?_eq_some_iff.1 BT.out).1
 replace OT := Lib.hid (OT.out.keep g)
 replace T0 := Lib.hid (zac g T0.out)
 replace BT := Lib.hid (zac g BT.out)
 have G3 := Lib.hid (zab G2.out g)
 obtain ⟨D, hD⟩ : ∃ D, D = W2.heap.size := ⟨_, rfl⟩
 rw [← hD] at OS HZ2 ⊢
 clear g hown hD HG2 G2
 go_upto_region 3 with fail
 obtain ⟨W4, hW4⟩ : ∃ W4, W4 = w3.alloc (.cells #[.map (some D)] 188) := ⟨_, rfl⟩
 rw [← hW4]
 have g4 : Below w3.heap.size w3 W4 := by rw [hW4]; exact below1
 have BS : Hid (W4.heap[w3.heap.size]? = some (.cells #[.map (some D)] 188 (0, 0))) := by show _ = _; rw [hW4]; exact heap_alloc_last w3 _
 have HZ3 : Hid (D < w3.heap.size) := OS.out.lt
 replace OT := Lib.hid (OT.out.keep g4)
 replace OS := Lib.hid (OS.out.keep g4)
 replace T0 := Lib.hid (zac g4 T0.out)
 replace BT := Lib.hid (zac g4 BT.out)
 have G4 := Lib.hid (zab G3.out g4)
 obtain ⟨bs, hbs⟩ : ∃ bs, bs = w3.heap.size := ⟨_, rfl⟩
 rw [← hbs] at BS HZ3 ⊢
 clear hW4 g4 hbs G3
 have z0 := (zai T0.out).2.1
 go_wp2_with fail
 refine (HC.out W4 G4.out).mono ?_
 rintro e w5 ⟨b, m, c, q, rfl, hb, hlm, ho, hge, g⟩
 rw [← HLe.out] at hlm ho
 have HZ4 : Hid (bs < W4.heap.size) := (Array.getElem?_eq_some_iff.1 BS.out).1
 have HZ5 : Hid (W4.heap.size ≤ b ∧ b < w5.heap.size) := ⟨hge, (Array.getElem?_eq_some_iff.1 hb).1⟩
 replace OT := Lib.hid (OT.out.keep g)
 replace OS := Lib.hid (OS.out.keep g)
 replace BT := Lib.hid (zac g BT.out)
 replace BS := Lib.hid (zac g BS.out)
 have G5 := Lib.hid (zab G4.out g)
 have HSt := Lib.hid (zk6 2 w.heap.size w5.heap.size D b m c q L w5 (by have := g.size; have := HZ4.out; have := HZ3.out; have := HZ2.out; have := HZ1.out; have := HZ0.out; omega) (Nat.le_refl _) (by rw [← hlm]; exact HLl.out) hlm HZ5.out.2 (by have := HZ5.out.1; have := HZ4.out; have := HZ3.out; omega) hb (za2 ho) (fun b' o' e hpos => by
  have := zc4 ho (b := b') (by rw [e]; rfl)
  have := HZ4.out; have := HZ3.out
  omega))
 have HSZ : Hid (w.heap.size < bm ∧ bm < bt ∧ bt < D ∧ D < bs ∧ bs < w5.heap.size) := ⟨HZ0.out, HZ1.out, HZ2.out, HZ3.out, by have := HZ4.out; have := g.size; omega⟩
 clear g hb hlm ho hge z0 HC G4 HZ0 HZ1 HZ2 HZ3 HZ4 HZ5 T0
 go_wp2_with fail
 refine (wpIn_wide (n := 3)).1 ?_
 refine wpIn_rangeFunc_ownH (w0 := w5) rfl (by omega) (gf := 203) (lb := #[.pointer (some ⟨b, 0, none⟩)]) rfl trivial zea
  HSt.out zyd (zyc (by have := HSZ.out; omega) (Nat.le_refl _)) (Below.refl _ _) (fun _ => rfl)
  (fun pre W => Fiw w.heap.size w5.heap.size D bt bs bm js w5 pre W) (fun _ _ _ => False)
  (yfa (Nat.le_refl _) (by have := HSZ.out; omega) (Nat.le_refl _) (by have := HSZ.out; omega)) (fun _ _ _ _ _ h _ _ => h)
  ⟨OS.out, But.refl _ _ _ _⟩ (fun (x : Lk) (a' : Act) (W : World) => ∃ b6 : Nat, a' = { tmps := #[.agg (tr ⟨s⟩), u, vb, .slice p n cp, .pointer (some ⟨w.heap.size, 0, none⟩), undef, undef, undef, .slice none 0 0, .pointer (some ⟨bt, 0, none⟩), .pointer (some ⟨bs, 0, none⟩), .pointer (some ⟨b6, 0, none⟩), undef, undef, undef, .slice p n cp, .map (some bm), .map (some D), .agg (tr ⟨s⟩), u, vb, .func (.func 203) #[] #[.pointer (some ⟨b, 0, none⟩)], .agg (lk x), undef, undef, undef, undef, undef, undef, undef, undef, undef, undef, undef, undef, undef, undef, undef, undef, undef, undef, undef, undef, undef, undef, undef, undef, undef, undef, undef, undef, undef, undef, undef, undef, undef], defers := [] } ∧ W.heap[b6]? = some (.cells (lk x) 118 (0, 0)))
  (fun x a' s X Y row ⟨b6, e, h⟩ hg hr => ⟨b6, e, (hg.block b6 (Array.getElem?_eq_some_iff.1 h).1 (fun e => by obtain ⟨_, o, ho, hc⟩ := hr b6 e.symm; rw [h] at ho; cases ho; cases hc)).trans h⟩) ?assign ?body ?done ?stop
 case assign =>
  intro lo pre x W K hI hK
  gi_wp2
  refine hK _ _ ((KeepsOthers.alloc _ _).from _) (But.of_below (below1.mono hI.but.below.size) (by have := HSZ.out; omega)) ⟨hI.src.keep below1, hI.but.then below1 (by have := HSZ.out; omega) hI.but.below.size⟩ ⟨W.heap.size, rfl, heap_alloc_last W _⟩
 case body =>
  rintro lo pre x a' W hlo ⟨rr, hr⟩ hI ⟨b6, rfl, h6⟩ hlen
  have HBT : Hid (W.heap[bt]? = some (.cells #[.map (some bm)] 188 (0, 0))) := hI.but.blk (by have := HSZ.out; omega) (by have := HSZ.out; omega) BT.out
  have HBS : Hid (W.heap[bs]? = some (.cells #[.map (some D)] 188 (0, 0))) := hI.but.blk (by have := HSZ.out; omega) (by have := HSZ.out; omega) BS.out
  have HOT : Hid (OwnsC W bm n js) := z65 OT.out hI.but (by have := HSZ.out; omega) (by have := HSZ.out; omega)
  have HI := Lib.hid hI
  have H6 := Lib.hid h6
  have HLn : Hid (pre.length ≤ 1000) := by show _ ≤ _; have := HLl.out; omega
  have HSw : Hid (w5.heap.size ≤ W.heap.size) := hI.but.below.size
  have HFr := Lib.hid (zlr bm n js x.t W HOT.out)
  have c1 := (zam HBT.out).1
  have c2 := (lk_v h6).t
  have HSn : Hid (srcs js (pre ++ [x]) = srcs js pre ++ (if (decide (x.t ∈ js) && decide ((x.t.epoch.toNat : Int) = ((x.s.epoch + 1).toNat : Int))) = true then [x.s] else [])) := z74 js pre x
  obtain ⟨a, ha⟩ : ∃ a, a = decide (x.t ∈ js) := ⟨_, rfl⟩
  rw [← ha] at HFr HSn
  obtain ⟨E, hE⟩ : ∃ E, E = decide ((x.t.epoch.toNat : Int) = ((x.s.epoch + 1).toNat : Int)) := ⟨_, rfl⟩
  rw [← hE] at HSn
  have HEe := Lib.hid hE
  clear hlen h6 hI hr ha hE
  gi_wp2
  refine ⟨trivial, (callsIn_wide.2 HFr.out).mono ?_⟩
  rintro e W1 ⟨rfl, g1⟩
  have HG1 := Lib.hid g1
  replace HBS := Lib.hid (zac g1 HBS.out)
  replace H6 := Lib.hid (zac g1 H6.out)
  have HS1 : Hid (OwnsC W1 D pre.length (srcs js pre)) := HI.out.src.keep g1
  clear g1 c1 c2 HFr
  cases a
  ·
   gi_wp2
   refine ⟨KeepsFrom.of_grownBy (zbd HG1.out) (fun j e => by cases e), But.of_below (HG1.out.mono HSw.out) (by have := HSZ.out; omega), ⟨?_, HI.out.but.then HG1.out (by have := HSZ.out; omega) HSw.out⟩⟩
   rw [HSn.out, Bool.false_and, if_neg Bool.false_ne_true, List.append_nil, List.length_append]
   exact HS1.out.same (Nat.le_add_right _ _) (fun _ => Iff.rfl)
  ·
   have hw := ydd x.s.epoch
   have c3 := (lk_v H6.out).te
   have c4 := (lk_v H6.out).se
   have c5 := (zam HBS.out).1
   have c6 := (lk_v H6.out).s
   obtain ⟨B1, hB1⟩ : ∃ B, B = x.t.epoch.toNat := ⟨_, rfl⟩
   obtain ⟨B2, hB2⟩ : ∃ B, B = x.s.epoch.toNat := ⟨_, rfl⟩
   obtain ⟨B3, hB3⟩ : ∃ B, B = (x.s.epoch + 1).toNat := ⟨_, rfl⟩
   have t1 : ((B1 : Int) == (B3 : Int)) = E := by rw [HEe.out, hB1, hB3, Bool.eq_iff_iff, beq_iff_eq, decide_eq_true_iff]
   have t1' : (B1 == B3) = E := by rw [← t1, Bool.eq_iff_iff, beq_iff_eq, beq_iff_eq]; omega
   rw [← hB2, ← hB3] at hw
   rw [← hB1] at c3
   rw [← hB2] at c4
   clear hB1 hB2 hB3 HEe
   cases E
   ·
    gi_wp2
    refine ⟨KeepsFrom.of_grownBy (zbd HG1.out) (fun j e => by cases e), But.of_below (HG1.out.mono HSw.out) (by have := HSZ.out; omega), ⟨?_, HI.out.but.then HG1.out (by have := HSZ.out; omega) HSw.out⟩⟩
    rw [HSn.out, Bool.and_false, if_neg Bool.false_ne_true, List.append_nil, List.length_append]
    exact HS1.out.same (Nat.le_add_right _ _) (fun _ => Iff.rfl)
   ·
    have HPt := Lib.hid (zq6 D pre.length (srcs js pre) x.s W1 HS1.out (by have := HLn.out; omega))
    gi_wp2
    refine ⟨trivial, (callsIn_wide.2 HPt.out).mono ?_⟩
    rintro e W2 ⟨⟨vv, rfl⟩, hown, hgr⟩
    have HO2 := Lib.hid hown
    have HGr := Lib.hid hgr
    clear hown hgr hw c3 c4 c5 c6 t1 t1'
    gi_wp2
    refine ⟨(KeepsFrom.of_grownBy (zbd HG1.out) (fun j e => by cases e)).trans (KeepsFrom.of_grownBy HGr.out (fun j e => by cases e; have := HSZ.out; omega)), (But.of_below (HG1.out.mono HSw.out) (by have := HSZ.out; omega)).map HGr.out (by have := HSZ.out; omega) (Nat.le_trans HSw.out HG1.out.size) (by have := HSZ.out; omega), ⟨?_, (HI.out.but.then HG1.out (by have := HSZ.out; omega) HSw.out).map HGr.out (by have := HSZ.out; omega) (Nat.le_trans HSw.out HG1.out.size) (by have := HSZ.out; omega)⟩⟩
    rw [HSn.out, Bool.true_and, if_pos rfl, List.length_append]
    exact HO2.out
 case done =>
  intro D' ys W hD' hys hI hK
  obtain rfl := hys
  have HBS : Hid (W.heap[bs]? = some (.cells #[.map (some D)] 188 (0, 0))) := hI.but.blk (by have := HSZ.out; omega) (by have := HSZ.out; omega) BS.out
  have HKD := Lib.hid hK
  have HDD : Hid (w.heap.size ≤ D') := by show _ ≤ _; have := HSZ.out; omega
  have HGw : Hid (Below w.heap.size w W) := G5.out.trans hI.but.below
  have HSo := Lib.hid hI.src
  obtain ⟨S, hS⟩ : ∃ S, S = srcs js ys := ⟨_, rfl⟩
  rw [← hS] at HSo HR
  obtain ⟨M, hM⟩ : ∃ M, M = ys.length := ⟨_, rfl⟩
  rw [← hM] at HSo
  clear hI hK hD' hS hM HSt HLe HLl
  have hHas := fun (c : Ck) (V : World) (g : Below W.heap.size W V) => zlr D M S c V (HSo.out.keep g)
  have HHas := Lib.hid hHas
  clear hHas
  go_wp2_with fail
  go_loopw [12, 43] (fun v i wr => ∃ j : Nat, j ≤ n ∧ i = .int .i64 (j : Int) ∧ OwnE Ecc wr W.heap.size v ((js.take j).filter fun c => decide (c ∈ S)) ∧ Below W.heap.size W wr) (fun _ i _ => n - (intOf i).toNat)
  case atStart => exact ⟨0, Nat.zero_le _, rfl, za8 _ _ _, Below.refl _ _⟩
  case round =>
   obtain ⟨j, hj, rfl, ho, hg⟩ := hrel
   have HO := Lib.hid ho
   have HG := Lib.hid hg
   clear ho hg
   by_cases hlt : j < n
   ·
    have i0 : (0 : Int) ≤ (j : Int) := by omega
    have i1 : (j : Int) < (n : Int) := by omega
    have d0 : decide ((j : Int) < (n : Int)) = true := decide_eq_true i1
    have d0' : decide (j < n) = true := decide_eq_true hlt
    have u1 : (j : Int) + 1 < 10000 := by have := HN.out; omega
    have HLT := Lib.hid hlt
    obtain ⟨b1, o1, rfl, q1, x1⟩ := zdq (zad HGw.out K.out) (by have := HL.out; omega)
    have y1 := Go.Proofs.YtkalofboioffiaaGreat.keep HG.out (zgi x1 (i := j) (by have := HL.out; omega))
    have HTk : Hid ((js.take (j + 1)).filter (fun c => decide (c ∈ S)) = (js.take j).filter (fun c => decide (c ∈ S)) ++ (if decide (ckAt js j ∈ S) = true then [ckAt js j] else [])) := by
     show _ = _
     rw [List.take_add_one, List.getElem?_eq_getElem (by have := HL.out; omega), List.filter_append, zcv (by have := HL.out; omega)]
     congr 1
     show List.filter _ [_] = _
     rw [List.filter_cons]
     rfl
    have HKl : Hid (((js.take j).filter (fun c => decide (c ∈ S))).length ≤ 2000) := by
     show _ ≤ _
     have := List.length_filter_le (fun c => decide (c ∈ S)) (js.take j)
     rw [List.length_take] at this
     have := HN.out
     omega
    generalize ckAt js j = C at *
    obtain ⟨k, hk⟩ : ∃ k, k = (js.take j).filter (fun c => decide (c ∈ S)) := ⟨_, rfl⟩
    rw [← hk] at HO HTk HKl
    have HFr := Lib.hid (HHas.out C)
    obtain ⟨a, ha⟩ : ∃ a, a = decide (C ∈ S) := ⟨_, rfl⟩
    rw [← ha] at HFr HTk
    clear x1 q1 hlt hj hk ha
    go_upto_region 11 with fail
    obtain ⟨V, hV⟩ : ∃ V, V = wr.alloc (.cells (cc C) 36) := ⟨_, rfl⟩
    rw [← hV]
    have g5 : Below wr.heap.size wr V := by rw [hV]; exact below1
    have X5 : Hid (V.heap[wr.heap.size]? = some (.cells (cc C) 36 (0, 0))) := by show _ = _; rw [hV]; exact heap_alloc_last wr _
    have HGV : Hid (Below W.heap.size W V) := zab HG.out g5
    have HOV : Hid (OwnE Ecc V W.heap.size _ k) := za5 g5 HO.out
    obtain ⟨Q, hQ⟩ : ∃ Q, Q = wr.heap.size := ⟨_, rfl⟩
    rw [← hQ] at X5 ⊢
    clear hV y1 hQ g5 HG HO
    have c1 := (zam (zac HGV.out HBS.out)).1
    have c2 := (ck_v X5.out).a
    go_wp2_with fail
    refine (HFr.out V HGV.out).mono ?_
    rintro e V1 ⟨rfl, g⟩
    replace HGV := Lib.hid (zab HGV.out g)
    replace HOV := Lib.hid (za5 g HOV.out)
    replace X5 := Lib.hid (zac g X5.out)
    clear g c1 c2
    cases a
    ·
     go_wp2_with fail
     go_roundw
     case rel => exact ⟨j + 1, HLT.out, by go_num, by rw [HTk.out, if_neg Bool.false_ne_true, List.append_nil]; exact HOV.out, HGV.out⟩
     case measure => simp [intOf]; have := HLT.out; omega
    ·
     have c2 := (ck_v X5.out).a
     go_wp2_with (at_builtin; refine za1 Kcc _ rfl _ _ rfl W.heap.size _ k rfl (zaw HOV.out _) _ [C] rfl (zfx _ C _ rfl) (by have := HKl.out; simp; omega) (by have := HGV.out.size; simp; omega) ?_; intro v' V2 ho7 hg7)
     go_roundw
     case rel => exact ⟨j + 1, HLT.out, by go_num, by rw [HTk.out, if_pos trivial]; exact ho7, (zab HGV.out below1).trans (hg7.own (zaw HOV.out _) (by have := HGV.out.size; simp; omega))⟩
     case measure => simp [intOf]; have := HLT.out; omega
   ·
    obtain rfl : j = n := by omega
    have d0 : decide ((j : Int) < (j : Int)) = false := decide_eq_false (Int.lt_irrefl _)
    have d0' : decide (j < j) = false := decide_eq_false (Nat.lt_irrefl _)
    rw [List.take_of_length_le (by rw [HL.out]; exact Nat.le_refl _), ← HR.out] at HO
    obtain ⟨pv, cv, rfl⟩ := zb4 HO.out
    have HKw : Hid (wr.heap[D']? = some (.deferred (some []))) := zac HG.out HKD.out
    have HGf : Hid (Below w.heap.size w wr) := zab HGw.out HG.out
    obtain ⟨rl, hrl⟩ : ∃ rl, rl = r.length := ⟨_, rfl⟩
    rw [← hrl] at HO ⊢
    clear hlt hrl
    go_wp2_with fail
    refine zf6 (v := .slice pv rl cv) HKw.out ⟨by simp [results, Tryz.results160, go_sem], _, rfl, ?_, zcu HKw.out HGf.out HDD.out⟩
    exact zbi (zwy (B := 0) (fun _ : List Unit => Value.slice pv rl cv) (fun _ => r) [] _ _ _ HO.out (grownBy_putObj' wr D' _) (fun r e => by cases e; exact ⟨Nat.zero_le _, _, HKw.out, rfl⟩)) HGw.out.size
 case stop =>
  intro D c pre W _ _ h
  exact h.elim
theorem z13 (s : SlV) (u vb vj : Value) (l : List Nd) (ls : List Lk) (bal : List UInt64) (js : List Ck) (w : World) (h : SlE Ene w (sv s) l) (h1 : SlE Elk w u ls) (h2 : SlE Enum w vb bal) (h3 : SlE Ecc w vj js) (hm : ls.length ≤ 1000) (hn : js.length ≤ 2000) :
  Calls Tryz.prog 160 #[.agg (tr ⟨s⟩), u, vb, vj] w fun e w' => ∃ v, e = .returned v ∧ OwnE Ecc w' w.heap.size v (zb1 l ls bal js) ∧ Below w.heap.size w w' := by
 have k := h3
 obtain ⟨p, cp, rfl, _⟩ := zal h3
 exact zud s u vb p _ cp l ls bal js w h h1 h2 k rfl hn hm
theorem zj9 : ∀ args w, (callFunc 160 args).run Tryz.prog w = .ok (.enter 160 args) w := za7 Tryz.func160 (by kernel_rfl) (by kernel_rfl)
end
theorem zyn (p : Option Addr) (n cap : Nat) (w : World) : (binOp .eql 32 (.slice p n cap) (.slice none 0 0)).run Tryz.prog w = .ok (.bool p.isNone) w := by
 have h := run_equalIn_slice_nil (P := Tryz.prog) w 9999 32 36 p n cap Tryz.underlying32
 simp [binOp, Op.equal, Op.maxDepth, h]
theorem yhr : zst Tryz.prog Ecc 32 40 := ⟨Tryz.underlying32, .agg (cc zcc), z5n, by show ((cc zcc)).size = _; exact zax _⟩
def yhw (l : List Ck) (w : World) (e : Ending) (w' : World) : Prop := ∃ v, e = .returned v ∧ OwnE Ecc w' w.heap.size v l ∧ Below w.heap.size w w'
theorem z4i (p : Option Addr) (n cap : Nat) (l : List Ck) (w : World) (h : SlE Ecc w (.slice p n cap) l) (hl : l.length = n) (hn : n * 40 ≤ 140737440355328) :
  Calls Tryz.prog 137 #[.slice p n cap] w (yhw l w) := by
 have HS := Lib.hid h
 have HL := Lib.hid hl
 have HN := Lib.hid hn
 cases p with
 | none =>
  have hn0 : l = [] := by
   obtain ⟨p, cap', e, _, h⟩ := h
   injection e with e
   subst e
   exact h.resolve_right (fun ⟨_, _, e, _⟩ => by cases e)
  have e : n = 0 := by rw [← hl, hn0]; rfl
  subst hn0 e
  clear HS h hl hn
  have he : ∀ w, (binOp .eql 32 (.slice none 0 cap) (.slice none 0 0)).run Tryz.prog w = .ok (.bool true) w := fun w => zyn none 0 cap w
  go_enter Tryz.func137, Tryz.ntmps137
  go_wp2_with fail
  go_ret
  exact ⟨_, rfl, za8 _ _ _, Below.refl _ _⟩
 | some a =>
  have HO : Hid (OwnE Ecc (w.alloc (.cells #[] 36)) w.heap.size (.slice (some ⟨w.heap.size, 0, none⟩) 0 0) []) := zru (E := Ecc) w [] 0 rfl (by simp [maxLen]) #[] rfl _ rfl
  have HB : Hid (Below w.heap.size w (w.alloc (.cells #[] 36))) := below1
  clear h hl hn
  have he : ∀ w, (binOp .eql 32 (.slice (some a) n cap) (.slice none 0 0)).run Tryz.prog w = .ok (.bool false) w := fun w => zyn (some a) n cap w
  go_enter Tryz.func137, Tryz.ntmps137
  go_wp2_with (at_builtin; refine ze0 yhr _ rfl (.tmp 5) (.tmp 6) rfl w.heap.size _ [] rfl HO.out _ l rfl (zad HB.out HS.out) (by have := HL.out; have := HN.out; simp [maxLen]; omega) (by have := HL.out; have := HN.out; simp; omega) (by simp) ?_; intro v2 w2 ho2 hg2)
  go_ret
  exact ⟨_, rfl, by simpa using ho2, HB.out.trans (hg2.own HO.out (by simp))⟩
theorem yeu (v : Value) (l : List Ck) (w : World) (h : SlE Ecc w v l) (hn : l.length * 40 ≤ 140737440355328) :
  Calls Tryz.prog 137 #[v] w (yhw l w) := by
 have k := h
 obtain ⟨p, cl, rfl, _⟩ := zal h
 exact z4i p _ cl l w k rfl hn
end Go.Proofs.YtkalofboioffiaaGreat
