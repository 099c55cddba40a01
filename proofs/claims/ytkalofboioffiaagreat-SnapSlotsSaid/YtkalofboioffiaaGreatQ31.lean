import Derived.Test.YtkalofboioffiaaGreatQ30
import Derived.Laws.IdiomCopy
import Derived.Deep.Upon
import Derived.Lib.EndianMore
namespace Go.Proofs.YtkalofboioffiaaGreat
open Go.RowKit
set_option maxRecDepth 200000
set_option maxHeartbeats 64000000
theorem z63 (s : SlV) (p : Option Addr) (n cp : Nat) (l : List Nd) (js : List Ck) (fin : Ck) (w : World) (h : SlE Ene w (sv s) l) (h3 : SlE Ecc w (.slice p n cp) js) (hl : js.length = n) (hj : n ≤ 2000) :
  Calls Tryz.prog 29 #[.agg (tr ⟨s⟩), .slice p n cp, .agg (cc fin)] w fun e w' => e = .returned (.agg (cc (zjz l js fin))) ∧ Below w.heap.size w w' := by
 have HBh := Lib.hid (fun c W (g : Below w.heap.size w W) => zs8 s l c fin W (zad g h))
 have HBt := Lib.hid (fun b a W => z52 b a W)
 obtain ⟨r, hr⟩ : ∃ r, r = zjz l js fin := ⟨_, rfl⟩
 rw [← hr]
 have HR := Lib.hid hr
 have HL := Lib.hid hl
 have HN := Lib.hid hj
 obtain ⟨W3, hW3⟩ : ∃ W3, W3 = ((w.alloc (.cells (tr ⟨s⟩) 24)).alloc (.cells (cc fin) 36)).alloc (.cells (cc zcc) 36) := ⟨_, rfl⟩
 obtain ⟨hB, k0, k1, k2, hz0⟩ := zft w _ _ _ _ _ _ W3 hW3
 have HW := Lib.hid hW3
 have y0 := (ck_v k1).a
 have D := Lib.hid (ype (s := s) (fin := fin) hB k0 k1 k2)
 clear hW3 hB k0 k1 k2 hz0 hr hl hj
 go_enter Tryz.func29, Tryz.ntmps29
 go_upto_region 1 with fail
 rw [← HW.out]
 go_upto_region 2 with fail
 obtain ⟨W0, hW0⟩ : ∃ W0, W0 = W3.alloc (.cells (cc fin) 36) := ⟨_, rfl⟩
 rw [← hW0]
 rw [← hW0] at D
 generalize W3.heap.size = R at *
 clear hW0 y0 HW
 go_wp2_with fail
 go_loopw [13] (fun i wr => ∃ (j : Nat) (o : Ck), j ≤ n ∧ i = .int .i64 (j : Int) ∧ zeb zbz (fun c => zb9 l c fin) (js.drop j) o = r ∧ Bv w wr s fin R o) (fun i _ => n - (intOf i).toNat)
 case atStart => exact ⟨0, fin, Nat.zero_le _, rfl, HR.out.symm, D.out⟩
 case round =>
  obtain ⟨j, o, hj, rfl, hb, hD⟩ := hrel
  have HBe := Lib.hid hb
  replace D := Lib.hid hD
  clear hb hD
  by_cases hlt : j < n
  ·
   have i0 : (0 : Int) ≤ (j : Int) := by omega
   have i1 : (j : Int) < (n : Int) := by omega
   have u1 : (j : Int) + 1 < 10000 := by have := HN.out; omega
   have d0 : decide ((j : Int) < (n : Int)) = true := decide_eq_true i1
   have d0' : decide (j < n) = true := decide_eq_true hlt
   have HLT := Lib.hid hlt
   obtain ⟨b1, o1, rfl, _, x1⟩ := zj4 (zad D.out.g h3) (by have := HL.out; omega)
   have y1 := zpc x1 (i := j) (by have := HL.out; omega)
   have HSt := Lib.hid (z82 (ok := (fun c => zb9 l c fin)) (js := js) (j := j) (by rw [HL.out]; exact hlt) o)
   generalize ckAt js j = C at *
   have HBh' := Lib.hid (HBh.out C)
   have HBt' := Lib.hid (HBt.out C o)
   generalize zb9 l C fin = a at *
   generalize betC zbz o C = b at *
   clear x1 hlt
   go_upto_region 5 with fail
   obtain ⟨W5, hW5⟩ : ∃ W5, W5 = wr.alloc (.cells (cc C) 36) := ⟨_, rfl⟩
   rw [← hW5]
   have hz5 : W5.heap[wr.heap.size]? = some (.cells (cc C) 36 (0, 0)) := by rw [hW5]; exact heap_alloc_last wr _
   replace D := Lib.hid (D.out.keep (W' := W5) (by rw [hW5]; exact below1))
   have C5 := Lib.hid hz5
   obtain ⟨Q, hQ⟩ : ∃ Q, Q = wr.heap.size := ⟨_, rfl⟩
   rw [← hQ] at C5 hz5 ⊢
   clear hW5 y1 hQ
   have z1 := (ck_v D.out.o).a
   have z2 := (ck_v hz5).a
   clear hz5
   go_wp2_with fail
   refine (HBt'.out _).mono ?_
   rintro e u ⟨rfl, g⟩
   replace D := Lib.hid (D.out.keep g)
   replace C5 := Lib.hid (zab g C5.out)
   clear g z1 z2
   have z0 := (zaw D.out.t).2.1
   have z1 := (ck_v D.out.f).a
   have z2 := (ck_v C5.out).a
   cases b
   ·
    go_wp2_with fail
    go_roundw
    case rel => exact ⟨j + 1, o, HLT.out, by go_num, by rw [← HBe.out, HSt.out, Bool.and_false]; rfl, D.out⟩
    case measure => simp [intOf]; have := HLT.out; omega
   ·
    go_wp2_with fail
    refine (HBh'.out _ D.out.g).mono ?_
    rintro e u2 ⟨rfl, g⟩
    replace D := Lib.hid (D.out.keep g)
    replace C5 := Lib.hid (zab g C5.out)
    clear g z0 z1 z2
    have z2 := (ck_v C5.out).a
    have z3 := za0 D.out.o (za5 _)
    cases a
    ·
     go_wp2_with fail
     go_roundw
     case rel => exact ⟨j + 1, o, HLT.out, by go_num, by rw [← HBe.out, HSt.out]; rfl, D.out⟩
     case measure => simp [intOf]; have := HLT.out; omega
    ·
     go_wp2_with fail
     go_roundw
     case rel => exact ⟨j + 1, C, HLT.out, by go_num, by rw [← HBe.out, HSt.out]; rfl, D.out.put C⟩
     case measure => simp [intOf]; have := HLT.out; omega
  ·
   obtain rfl : j = n := by omega
   have d0 : decide ((j : Int) < (j : Int)) = false := decide_eq_false (Int.lt_irrefl _)
   have d0' : decide (j < j) = false := decide_eq_false (Nat.lt_irrefl _)
   have hF : Hid (o = r) := by
    show o = r
    rw [← HBe.out, List.drop_eq_nil_of_le (by rw [HL.out]; exact Nat.le_refl _)]; rfl
   have y1 := (ck_v D.out.o).a
   have z1 := za0 D.out.r (za5 _)
   clear hlt
   go_wp2_with fail
   exact bodyPost_ret (zax Tryz.isAgg36 Tryz.sizeOf36 _ 6 rfl _ _ _ _ rfl (zag (zp3 D.out.r) (za5 _))) rfl ⟨by rw [hF.out], zap D.out.g (by omega)⟩
theorem z4d (s : SlV) (v : Value) (l : List Nd) (js : List Ck) (fin : Ck) (w : World) (h : SlE Ene w (sv s) l) (h3 : SlE Ecc w v js) (hj : js.length ≤ 2000) :
  Calls Tryz.prog 29 #[.agg (tr ⟨s⟩), v, .agg (cc fin)] w fun e w' => e = .returned (.agg (cc (zjz l js fin))) ∧ Below w.heap.size w w' := by
 have k := h3
 obtain ⟨p, cp, rfl, _⟩ := zar h3
 exact z63 s p _ cp l js fin w h k rfl hj
theorem zpn : ∀ args w, (callFunc 29 args).run Tryz.prog w = .ok (.enter 29 args) w := zbe Tryz.func29 (by kernel_rfl) (by kernel_rfl)
open Go.RowKit
section
variable {α : Type} {E : Lie α}
theorem zvr {w : World} {base g n cap : Nat} {l : List α} (h : OwnE E w base (.slice (some ⟨g, 0, none⟩) n cap) l) (hn : l.length = n) {i : Nat} (hi : i < n) (y : α) {r : Array Value} (hr : r.toList = E.enc y) : OwnE E (stA w (.pointer (some ⟨g, i * E.n, none⟩)) (.agg r)) base (.slice (some ⟨g, 0, none⟩) n cap) (l.set i y) := by
 subst hn
 unfold OwnE at h ⊢
 obtain ⟨_, h2⟩ := h
 rcases h2 with ⟨e, _⟩ | ⟨g', cap', cur, e, hb, hg, hc, hm, hs, ht⟩
 ·
  cases e
 ·
  injection e with e1 _ e3
  injection e1 with e1
  injection e1 with e1
  subst e1 e3
  have hsz : r.size = E.n := by rw [← Array.length_toList, hr, E.len]
  have hmul : (i + 1) * E.n ≤ l.length * E.n := Nat.mul_le_mul hi (Nat.le_refl _)
  have hcap : l.length * E.n ≤ cap * E.n := Nat.mul_le_mul hc (Nat.le_refl _)
  have hsucc : (i + 1) * E.n = i * E.n + E.n := Nat.succ_mul _ _
  have hfit : i * E.n + r.size ≤ cur.size := by omega
  refine ⟨by rw [zbt], .inr ⟨g, cap, za2 cur (i * E.n) r, by rw [List.length_set], hb, zbx hg hfit, by rw [List.length_set]; exact hc, hm, by rw [zq8 hfit, hs], ?_⟩⟩
  have h1 : (zaq E (l.take i)).length = i * E.n := by rw [zbt, List.length_take, Nat.min_eq_left (by omega)]
  have h3 : (E.enc l[i]).length = E.n := E.len _
  have ht' := ht
  rw [zsp l hi] at ht'
  have t1 : cur.toList.take (i * E.n) = zaq E (l.take i) := by
   have := congrArg (List.take (i * E.n)) ht'
   rw [List.take_take, Nat.min_eq_left (by omega), List.take_left' h1] at this
   exact this
  have t2 : (cur.toList.drop (i * E.n + E.n)).take (l.length * E.n - (i * E.n + E.n)) = zaq E (l.drop (i + 1)) := by
   have := congrArg (List.drop (i * E.n + E.n)) ht'
   rw [List.drop_take, ← List.append_assoc, List.drop_left' (by rw [List.length_append, h1, h3])] at this
   exact this
  rw [List.length_set, z46 l hi]
  unfold za2
  rw [hsz, hr, t1]
  have e4 : (zaq E (l.take i) ++ E.enc y).length = i * E.n + E.n := by rw [List.length_append, h1, E.len]
  rw [← List.append_assoc, List.toList_toArray, List.take_append, e4, List.take_of_length_le (by rw [e4]; omega), t2, List.append_assoc]
end
open Go.RowKit
section
variable {α : Type} {E : Lie α} {P : Program}
def z0g (n : Nat) (v hi : Value) : Option Value :=
 match v, hi with
 | .slice a _ cap, .int _ h => if 0 ≤ h ∧ h ≤ cap then some (sliced a 0 h.toNat cap n) else none
 | _, _ => none
theorem zts {T e : TypeId} {n : Nat} (hT : P.underlying T = some (.slice e)) (hs : ∀ w, (Go.sizeOf e).run P w = .ok n w) (ρ : Operand → Value) (dst : Option Tmp) (x hi : Operand) (ty : TypeId) (pos : String) (after : Array Edge) (guard : Option (Nat × Bool)) (w : World) :
  (execOp ρ { dst, op := .slice T x none (some hi) none, type := ty, pos, after, guard }).run P w = zg7 (z0g n (ρ x) (ρ hi)) w (zbn P ρ { dst, op := .slice T x none (some hi) none, type := ty, pos, after, guard } w) := by
 have hu : P.underlying T = some (.slice (P.elem T)) := by simp [Program.elem, hT]
 have he : P.elem T = e := by simp [Program.elem, hT]
 cases h : z0g n (ρ x) (ρ hi) with
 | none => rfl
 | some v =>
  unfold z0g at h
  split at h
  ·
   rename_i a len cap k l hx hl
   split at h
   ·
    rename_i hb
    have hv := Option.some.inj h
    subst hv
    unfold execOp
    simp only [hx, hl, Option.map_some, Option.map_none, Sem.run_bind]
    rw [run_sliceAt_slice w _ _ _ _ _ hu, run_slice_h w _ a len cap hu k l hb.1 hb.2, he, hs]
    rfl
   ·
    cases h
  ·
   cases h
end
theorem zeq {w W : World} {r : Option Nat} (b : Below w.heap.size w W) : w.grownBy W r := ⟨b.os, b.tape, b.output, b.size, fun k hk _ => b.block k hk⟩
theorem zhf {w W W' : World} {r : Option Nat} (h : w.grownBy W r) (b : Below W.heap.size W W') : w.grownBy W' r :=
 ⟨b.os.trans h.os, b.tape.trans h.tape, b.output.trans h.output, Nat.le_trans h.size b.size, fun k hk hr => (b.block k (Nat.lt_of_lt_of_le hk h.size)).trans (h.block k hk hr)⟩
theorem zxq {w W : World} {g o : Nat} {v : Value} (h : w.grownBy W (some g)) : w.grownBy (stA W (.pointer (some ⟨g, o, none⟩)) v) (some g) := by
 have b : Below 0 W (stA W (.pointer (some ⟨g, o, none⟩)) v) := zap (Below.refl _ _) (Nat.zero_le _)
 refine ⟨b.os.trans h.os, b.tape.trans h.tape, b.output.trans h.output, Nat.le_trans h.size b.size, fun k hk hr => ?_⟩
 rw [zdf (fun e => hr (by rw [e]))]
 exact h.block k hk hr
theorem zjs {w W : World} {g : Nat} (h : w.grownBy W (some g)) (vs : List Value) (o : Nat) : w.grownBy (W.setCells g o vs) (some g) := by
 have b := Lib.below_setCells_w (B := 0) (Nat.zero_le g) vs o W
 refine ⟨b.os.trans h.os, b.tape.trans h.tape, b.output.trans h.output, Nat.le_trans h.size b.size, fun k hk hr => ?_⟩
 rw [World.heap_setCells_other W g o vs (Nat.lt_of_lt_of_le hk h.size) (fun e => hr (by rw [e]))]
 exact h.block k hk hr
theorem zjw {P : Program} {t e : TypeId} {z : Array Value} (ht : P.underlying t = some (.slice e)) (hv : ∀ w, (zeroValue e).run P w = .ok (.agg z) w) (hz : ∀ v ∈ z.toList, v.oneCell' = true) (hp : 0 < z.size) (w : World) (g o m c : Nat) (hm : 0 < m) (h : w.there g o (m * z.size)) :
  ∃ vs, vs.length = m * z.size ∧ ∀ ty, (Builtin.clear_ #[t] ty #[.slice (some ⟨g, o, none⟩) m c]).run P w = .ok (.tuple #[]) (w.setCells g o vs) := by
 have hsz : (Builtin.zeroCells z m).toList.length = m * z.size := by simp [Builtin.zeroCells]
 refine ⟨(Builtin.zeroCells z m).toList, hsz, fun ty => ?_⟩
 have hone : ∀ v ∈ (Builtin.zeroCells z m).toList, v.oneCell' = true := fun v hv => by
  simp only [Builtin.zeroCells, Array.toList_map, Array.toList_range, List.mem_map, List.mem_range] at hv
  obtain ⟨j, _, rfl⟩ := hv
  have hj : j % z.size < z.size := Nat.mod_lt _ hp
  rw [getElem!_pos z _ hj]
  exact hz _ (Array.getElem_mem_toList ..)
 have hst := run_storeCells_cells (P := P) g o (Builtin.zeroCells z m).toList 0 w (fun j hj => (h j (by rw [← hsz]; exact hj)).1) (fun j hj => (h j (by rw [← hsz]; exact hj)).2) hone
 simp only [Nat.add_zero] at hst
 obtain ⟨m', rfl⟩ : ∃ m', m = m' + 1 := ⟨m - 1, by omega⟩
 simp [Builtin.clear_, run_underlying ht, hv, Value.cells, hst]
section
open Go.RowKit
def IdxC (p : Ck → Bool) (l : List Ck) (w : World) (e : Ending) (w' : World) : Prop :=
 Below w.heap.size w w' ∧ ((e = .returned (.int .i64 (-1)) ∧ (l.filter fun c => !p c) = l) ∨ ∃ k : Nat, e = .returned (.int .i64 (k : Int)) ∧ k < l.length ∧ p (ckAt l k) = true ∧ ((l.take k).filter fun c => !p c) = l.take k)
theorem z73 {p : Ck → Bool} {l : List Ck} {j : Nat} (hj : j < l.length) (h : ((l.take j).filter fun c => !p c) = l.take j) (hk : p (ckAt l j) = false) : ((l.take (j + 1)).filter fun c => !p c) = l.take (j + 1) := by
 rw [List.take_add_one, List.getElem?_eq_getElem hj, List.filter_append, h]
 congr 1
 rw [zh8 hj] at hk
 show List.filter _ [_] = [_]
 rw [List.filter_cons, hk]
 rfl
theorem yji (cf : Nat) (lb : Array Value) (q : Ck → Bool) (eg : ∀ args w, (callFunc cf args).run Tryz.prog w = .ok (.enter cf args) w) (p : Option Addr) (n cp : Nat) (l : List Ck) (w : World) (h : SlE Ecc w (.slice p n cp) l) (hl : l.length = n) (hn : n ≤ 2000)
  (hq : ∀ (c : Ck) (W : World), Below w.heap.size w W → Calls Tryz.prog cf (#[.agg (cc c)] ++ lb) W fun e w' => e = .returned (.bool (q c)) ∧ Below W.heap.size W w') :
  Calls Tryz.prog 181 #[.slice p n cp, .func (.func cf) #[] lb] w (IdxC q l w) := by
 have HP := Lib.hid hq
 have K := Lib.hid h
 have HL := Lib.hid hl
 have HN := Lib.hid hn
 clear h hl hn hq
 go_enter Tryz.func181, Tryz.ntmps181
 go_wp2_with fail
 go_loopw [8] (fun i wr => ∃ j : Nat, j ≤ n ∧ i = .int .i64 (j : Int) ∧ ((l.take j).filter fun c => !q c) = l.take j ∧ Below w.heap.size w wr) (fun i _ => n - (intOf i).toNat)
 case atStart => exact ⟨0, Nat.zero_le _, rfl, rfl, Below.refl _ _⟩
 case round =>
  obtain ⟨j, hj, rfl, hf, hg⟩ := hrel
  have HF := Lib.hid hf
  have HG := Lib.hid hg
  clear hf hg
  by_cases hlt : j < n
  ·
   have i0 : (0 : Int) ≤ (j : Int) := by omega
   have i1 : (j : Int) < (n : Int) := by omega
   have d0 : decide ((j : Int) < (n : Int)) = true := decide_eq_true i1
   have d0' : decide (j < n) = true := decide_eq_true hlt
   have u1 : (j : Int) + 1 < 10000 := by have := HN.out; omega
   have HLT := Lib.hid hlt
   obtain ⟨b1, o1, rfl, q1, x1⟩ := zj4 K.out (by have := HL.out; omega)
   have y1 := Go.Proofs.YtkalofboioffiaaGreat.keep HG.out (zpc x1 (i := j) (by have := HL.out; omega))
   have HTk : Hid (q (ckAt l j) = false → ((l.take (j + 1)).filter fun c => !q c) = l.take (j + 1)) := z73 (by rw [HL.out]; exact hlt) HF.out
   have HQ := Lib.hid (HP.out (ckAt l j) wr HG.out)
   obtain ⟨r, hr⟩ : ∃ r, r = q (ckAt l j) := ⟨_, rfl⟩
   rw [← hr] at HTk HQ
   have HR := Lib.hid hr
   generalize ckAt l j = C at y1 HQ
   clear x1 q1 hlt hj hr
   go_wp2_with fail
   refine HQ.out.mono ?_
   rintro e w1 ⟨rfl, g⟩
   have G1 := Lib.hid (zac HG.out g)
   clear g y1
   cases r
   ·
    go_wp2_with fail
    go_roundw
    case rel => exact ⟨j + 1, HLT.out, by go_num, (by have := HTk.out; simpa using this), G1.out⟩
    case measure => simp [intOf]; have := HLT.out; omega
   ·
    go_wp2_with fail
    go_ret
    exact ⟨G1.out, .inr ⟨j, rfl, by rw [HL.out]; exact HLT.out, HR.out.symm, HF.out⟩⟩
  ·
   obtain rfl : j = n := by omega
   have d0 : decide ((j : Int) < (j : Int)) = false := decide_eq_false (Int.lt_irrefl _)
   have d0' : decide (j < j) = false := decide_eq_false (Nat.lt_irrefl _)
   have HE : Hid ((l.filter fun c => !q c) = l) := by
    have := HF.out
    rwa [List.take_of_length_le (by rw [HL.out]; exact Nat.le_refl _)] at this
   clear hlt
   go_wp2_with fail
   go_ret
   exact ⟨HG.out, .inl ⟨rfl, HE.out⟩⟩
theorem z6y {w : World} {base g n c : Nat} {l : List Ck} (h : OwnE Ecc w base (.slice (some ⟨g, 0, none⟩) n c) l) (hl : l.length = n) : w.there g 0 (n * 33) := fun x hx => by
 have hi : x / 33 < n := by omega
 have := zd8.1 (zqz h hl hi) (x % 33) (Nat.mod_lt _ (by decide))
 have e : 0 + x / 33 * Ecc.n + x % 33 = 0 + x := by show 0 + x / 33 * 33 + x % 33 = 0 + x; omega
 rw [e] at this
 exact this
theorem z7l (w : World) (g i m c : Nat) (hm : 0 < m) (h : w.there g (i * 33) (m * 33)) : ∃ vs, vs.length = m * 33 ∧ ∀ ty, (Builtin.clear_ #[32] ty #[.slice (some ⟨g, i * 33, none⟩) m c]).run Tryz.prog w = .ok (.tuple #[]) (w.setCells g (i * 33) vs) := by
 have hN : (cc zcc).size = 33 := za5 zcc
 have := zjw (P := Tryz.prog) (z := cc zcc) Tryz.underlying32 zwu (fun v hv => Ecc.one zcc v (by show v ∈ ccL zcc; rw [← zby]; exact hv)) (by rw [hN]; decide) w g (i * 33) m c hm (by rw [hN]; exact h)
 rwa [hN] at this
theorem z0c {w : World} {base g n c i : Nat} {l : List Ck} {vs : List Value} (h : OwnE Ecc w base (.slice (some ⟨g, 0, none⟩) n c) l) (hl : l.length = n) (hi : i ≤ n) : SlE Ecc (w.setCells g (i * 33) vs) (.slice (some ⟨g, 0, none⟩) i c) (l.take i) := by
 have hb := (zbi h (b := g) rfl)
 have hB := Lib.below_setCells_w (B := base) hb.1 vs (i * 33) w
 obtain ⟨p, c', e, hc, hh⟩ := zat h
 injection e with e1 e2 e3
 subst e3
 refine ⟨_, c, by rw [List.length_take, hl, Nat.min_eq_left hi], by rw [List.length_take]; omega, ?_⟩
 rcases hh with rfl | ⟨b, off, e4, hlt, hx⟩
 ·
  left; exact List.take_nil
 ·
  rw [← e1] at e4
  injection e4 with e4
  injection e4 with e4 e5
  subst e4 e5
  refine .inr ⟨g, 0, rfl, Nat.lt_of_lt_of_le hlt hB.size, ?_⟩
  have hsplit : zaq Ecc l = zaq Ecc (l.take i) ++ zaq Ecc (l.drop i) := by rw [← zdy, List.take_append_drop]
  have hlen : (zaq Ecc (l.take i)).length = i * 33 := by rw [zbt, List.length_take, Nat.min_eq_left (by omega)]; rfl
  refine World.rangeAt_setCells_apart (fun j v hv => hx j v ?_) g (i * 33) vs (.inr (.inl (by rw [hlen]; omega)))
  rw [hsplit, List.getElem?_append_left (List.getElem?_eq_some_iff.1 hv).1]
  exact hv
theorem yfu (g n c i : Nat) (hi : i < n) (hc : n ≤ c) : z0f 33 (.slice (some ⟨g, 0, none⟩) n c) (.int .i64 (i : Int)) = some (.slice (some ⟨g, i * 33, none⟩) (n - i) (c - i)) := by
 show (if 0 ≤ (i : Int) ∧ (i : Int) ≤ (n : Int) then some (sliced (some ⟨g, 0, none⟩) (i : Int).toNat n c 33) else none) = _
 rw [if_pos (by omega), Int.toNat_natCast]
 unfold sliced
 rw [if_neg (by omega)]
 simp [Addr.add_mid]
theorem yk9 (g n c i : Nat) (hi : i ≤ n) (hc : n ≤ c) (h0 : 0 < c) : z0g 33 (.slice (some ⟨g, 0, none⟩) n c) (.int .i64 (i : Int)) = some (.slice (some ⟨g, 0, none⟩) i c) := by
 show (if 0 ≤ (i : Int) ∧ (i : Int) ≤ (c : Int) then some (sliced (some ⟨g, 0, none⟩) 0 (i : Int).toNat c 33) else none) = _
 rw [if_pos (by omega), Int.toNat_natCast]
 unfold sliced
 rw [if_neg (by omega)]
 simp [Addr.add]
@[local go_sem ↓ high] theorem yqn (ρ : Operand → Value) (dst : Option Tmp) (x hi : Operand) (ty : TypeId) (pos : String) (after : Array Edge) (guard : Option (Nat × Bool)) (w : World) :
  (execOp ρ { dst, op := .slice 32 x none (some hi) none, type := ty, pos, after, guard }).run Tryz.prog w = zg7 (z0g 33 (ρ x) (ρ hi)) w (zbn Tryz.prog ρ { dst, op := .slice 32 x none (some hi) none, type := ty, pos, after, guard } w) :=
 zts Tryz.underlying32 Tryz.sizeOf36 ρ dst x hi ty pos after guard w
structure DlC (p : Ck → Bool) (f a : List Ck) (n i j : Nat) : Prop where
 len : a.length = n
 lt : i < j
 le : j ≤ n
 lo : a.take i = (f.take j).filter fun c => !p c
 hi : ∀ x, j ≤ x → x < n → ckAt a x = ckAt f x
section
variable {p : Ck → Bool} {f a : List Ck} {n i j : Nat}
theorem znf (hl : f.length = n) (hj : j < n) : f.take (j + 1) = f.take j ++ [ckAt f j] := by
 rw [List.take_add_one, List.getElem?_eq_getElem (by omega), zh8 (by omega)]; rfl
theorem DlC.skip (h : DlC p f a n i j) (hl : f.length = n) (hj : j < n) (hk : p (ckAt f j) = true) : DlC p f a n i (j + 1) := by
 refine ⟨h.len, Nat.lt_succ_of_lt h.lt, hj, ?_, fun x hx hn => h.hi x (by omega) hn⟩
 rw [h.lo, znf hl hj, List.filter_append]
 have : List.filter (fun c => !p c) [ckAt f j] = [] := by rw [List.filter_cons, hk]; rfl
 rw [this, List.append_nil]
theorem DlC.stay (h : DlC p f a n i j) (hl : f.length = n) (hj : j < n) (hk : p (ckAt f j) = false) : DlC p f (a.set i (ckAt f j)) n (i + 1) (j + 1) := by
 have hlt := h.lt
 have hlen := h.len
 refine ⟨by rw [List.length_set]; exact hlen, by omega, hj, ?_, fun x hx hn => ?_⟩
 ·
  rw [znf hl hj, List.filter_append, ← h.lo]
  have : List.filter (fun c => !p c) [ckAt f j] = [ckAt f j] := by rw [List.filter_cons, hk]; rfl
  rw [this, List.take_add_one, List.getElem?_set_self (by omega), List.take_set, List.set_eq_of_length_le (by rw [List.length_take]; omega)]
  rfl
 ·
  have := h.hi x (by omega) hn
  unfold ckAt at this ⊢
  rw [List.getD_eq_getElem?_getD, List.getElem?_set_ne (by omega), ← List.getD_eq_getElem?_getD]
  exact this
theorem DlC.start (hl : f.length = n) (hi : i < n) (h : ((f.take i).filter fun c => !p c) = f.take i) (hk : p (ckAt f i) = true) : DlC p f f n i (i + 1) := by
 refine ⟨hl, Nat.lt_succ_self i, hi, ?_, fun _ _ _ => rfl⟩
 rw [znf hl hi, List.filter_append, h]
 have : List.filter (fun c => !p c) [ckAt f i] = [] := by rw [List.filter_cons, hk]; rfl
 rw [this, List.append_nil]
end
def DelC (p : Ck → Bool) (f : List Ck) (v0 : Value) (w : World) (e : Ending) (w' : World) : Prop := ∃ v, e = .returned v ∧ SlE Ecc w' v (f.filter fun c => !p c) ∧ (∀ b, v.ownBlock = some b → v0.ownBlock = some b) ∧ w.grownBy w' v0.ownBlock
theorem ypi (cf : Nat) (lb : Array Value) (q : Ck → Bool) (eg : ∀ args w, (callFunc cf args).run Tryz.prog w = .ok (.enter cf args) w) (B g n c : Nat) (f : List Ck) (w : World) (h : OwnE Ecc w B (.slice (some ⟨g, 0, none⟩) n c) f) (hl : f.length = n) (hn : n ≤ 2000)
  (hq : ∀ (c : Ck) (W : World), w.grownBy W (some g) → Calls Tryz.prog cf (#[.agg (cc c)] ++ lb) W fun e w' => e = .returned (.bool (q c)) ∧ Below W.heap.size W w') :
  Calls Tryz.prog 159 #[.slice (some ⟨g, 0, none⟩) n c, .func (.func cf) #[] lb] w (DelC q f (.slice (some ⟨g, 0, none⟩) n c) w) := by
 have HP := Lib.hid hq
 have HI := Lib.hid (yji cf lb q eg (some ⟨g, 0, none⟩) n c f w (zat h) hl hn fun c W b => hq c W (zeq b))
 have HO := Lib.hid h
 have HL := Lib.hid hl
 have HN := Lib.hid hn
 have HCp : Hid (n ≤ c) := by
  obtain ⟨_, _, e, hh⟩ := zar (zat h)
  injection e with _ e2 e3
  show n ≤ c
  omega
 have HGs : Hid (g < w.heap.size) := (zbi h (b := g) rfl).2
 clear h hl hn hq
 go_enter Tryz.func159, Tryz.ntmps159
 go_wp2_with fail
 refine HI.out.mono ?_
 rintro e w1 ⟨g1, ⟨rfl, hf⟩ | ⟨k, rfl, hk, hd, hf⟩⟩
 ·
  have HF := Lib.hid hf
  have G1 : Hid (w.grownBy w1 (some g)) := zeq g1
  replace HO := Lib.hid (zam g1 HO.out)
  clear hf g1 HI
  go_wp2_with fail
  go_ret
  exact ⟨_, rfl, by rw [HF.out]; exact zat HO.out, fun _ e => e, G1.out⟩
 ·
  have G1 : Hid (w.grownBy w1 (some g)) := zeq g1
  replace HO := Lib.hid (zam g1 HO.out)
  have D0 : Hid (DlC q f f n k (k + 1)) := DlC.start HL.out (by rw [← HL.out]; exact hk) hf hd
  have HK : Hid (k < n) := by show k < n; rw [← HL.out]; exact hk
  have e1 : ((k : Int) == -1) = false := beq_eq_false_iff_ne.2 (by omega)
  have u0 : (k : Int) + 1 < 10000 := by have := HK.out; have := HN.out; omega
  clear hf hd hk g1 HI
  go_wp2_with fail
  go_loopw [5, 6] (fun a b wr => ∃ (i j : Nat) (l : List Ck), a = .int .i64 (i : Int) ∧ b = .int .i64 (j : Int) ∧ DlC q f l n i j ∧ OwnE Ecc wr B (.slice (some ⟨g, 0, none⟩) n c) l ∧ w.grownBy wr (some g)) (fun _ b _ => n - (intOf b).toNat)
  case atStart => exact ⟨k, k + 1, f, rfl, by go_num, D0.out, HO.out, G1.out⟩
  case round =>
   obtain ⟨i, j, l, rfl, rfl, hd, ho, hg⟩ := hrel
   have D := Lib.hid hd
   replace HO := Lib.hid ho
   replace G1 := Lib.hid hg
   clear hd ho hg D0 u0 e1
   by_cases hlt : j < n
   ·
    have i0 : (0 : Int) ≤ (j : Int) := by omega
    have i1 : (j : Int) < (n : Int) := by omega
    have d0 : decide ((j : Int) < (n : Int)) = true := decide_eq_true i1
    have d0' : decide (j < n) = true := decide_eq_true hlt
    have i2 : (0 : Int) ≤ (i : Int) := by omega
    have i3 : (i : Int) < (n : Int) := by have := D.out.lt; omega
    have u1 : (j : Int) + 1 < 10000 := by have := HN.out; omega
    have u2 : (i : Int) + 1 < 10000 := by have := D.out.lt; have := HN.out; omega
    have HLT := Lib.hid hlt
    obtain ⟨_, o1, e1, _, x1⟩ := zj4 (zat HO.out) (by rw [D.out.len]; omega)
    injection e1 with e1
    injection e1 with e1 e2
    subst e1 e2
    have y1 := zpc x1 (i := j) (by rw [D.out.len]; exact hlt)
    rw [D.out.hi j (Nat.le_refl _) hlt, Nat.zero_add] at y1
    have HSk : Hid (q (ckAt f j) = true → DlC q f l n i (j + 1)) := D.out.skip HL.out hlt
    have HSy : Hid (q (ckAt f j) = false → DlC q f (l.set i (ckAt f j)) n (i + 1) (j + 1)) := D.out.stay HL.out hlt
    have HQ := Lib.hid (HP.out (ckAt f j))
    obtain ⟨r, hr⟩ : ∃ r, r = q (ckAt f j) := ⟨_, rfl⟩
    rw [← hr] at HSk HSy HQ
    obtain ⟨C, hC⟩ : ∃ C, C = ckAt f j := ⟨_, rfl⟩
    rw [← hC] at y1 HQ HSy
    clear x1 hlt hr hC
    go_upto_region 8 with fail
    obtain ⟨V, hV⟩ : ∃ V, V = wr.alloc (.cells (cc C) 36) := ⟨_, rfl⟩
    rw [← hV]
    have g5 : Below wr.heap.size wr V := by rw [hV]; exact below1
    have X5 : Hid (V.heap[wr.heap.size]? = some (.cells (cc C) 36 (0, 0))) := by show _ = _; rw [hV]; exact heap_alloc_last wr _
    replace HO := Lib.hid (zam g5 HO.out)
    replace G1 : Hid (w.grownBy V (some g)) := zhf G1.out g5
    obtain ⟨Q, hQ⟩ : ∃ Q, Q = wr.heap.size := ⟨_, rfl⟩
    rw [← hQ] at X5 ⊢
    clear hV y1 hQ g5
    have z2 := zag X5.out (za5 C)
    go_wp2_with fail
    refine (HQ.out V G1.out).mono ?_
    rintro e V1 ⟨rfl, gg⟩
    replace HO := Lib.hid (zam gg HO.out)
    replace G1 : Hid (w.grownBy V1 (some g)) := zhf G1.out gg
    replace X5 := Lib.hid (zab gg X5.out)
    clear gg z2
    cases r
    ·
     have z2 := zag X5.out (za5 C)
     have z3 := zqz HO.out D.out.len (i := i) (by have := D.out.lt; have := HLT.out; omega)
     have z3' : wrA V1 (.pointer (some ⟨g, i * 33, none⟩)) 33 = true := by rw [show i * 33 = 0 + i * Ecc.n from (Nat.zero_add _).symm]; exact z3
     clear z3
     go_wp2_with fail
     go_roundw
     case rel => exact ⟨i + 1, j + 1, l.set i C, by go_num, by go_num, (by have := HSy.out; simpa using this), zvr HO.out D.out.len (by have := D.out.lt; have := HLT.out; omega) C (zby C), zxq G1.out⟩
     case measure => simp [intOf]; have := HLT.out; omega
    ·
     go_wp2_with fail
     go_roundw
     case rel => exact ⟨i, j + 1, l, rfl, by go_num, (by have := HSk.out; simpa using this), HO.out, G1.out⟩
     case measure => simp [intOf]; have := HLT.out; omega
   ·
    have HJ : Hid (j = n) := by show j = n; have := D.out.le; omega
    have d0 : decide ((j : Int) < (n : Int)) = false := decide_eq_false (by omega)
    have d0' : decide (j < n) = false := decide_eq_false hlt
    have HIl : Hid (i < n) := by show i < n; have := D.out.lt; have := D.out.le; omega
    have HF : Hid (l.take i = f.filter fun c => !q c) := by
     show _ = _
     rw [D.out.lo, HJ.out, List.take_of_length_le (by rw [HL.out]; exact Nat.le_refl _)]
    have c1 := yfu g n c i HIl.out HCp.out
    have c2 := yk9 g n c i (Nat.le_of_lt HIl.out) HCp.out (by have := HIl.out; have := HCp.out; omega)
    obtain ⟨vs, hvs, hcl⟩ := z7l wr g i (n - i) (c - i) (by have := HIl.out; omega) (fun x hx => by
     have h1 := z6y HO.out D.out.len (i * 33 + x) (by have := HIl.out; have e : (n - i) * 33 = n * 33 - i * 33 := Nat.sub_mul _ _ _; rw [e] at hx; omega)
     rw [Nat.zero_add] at h1
     exact h1)
    have S := Lib.hid (z0c (vs := vs) HO.out D.out.len (Nat.le_of_lt HIl.out))
    have G2 : Hid (w.grownBy (wr.setCells g (i * 33) vs) (some g)) := zjs G1.out vs (i * 33)
    generalize wr.setCells g (i * 33) vs = wc at *
    clear hlt hvs
    go_wp2_with fail
    go_ret
    exact ⟨_, rfl, by rw [← HF.out]; exact S.out, fun _ e => e, G2.out⟩
theorem delC (cf : Nat) (lb : Array Value) (q : Ck → Bool) (eg : ∀ args w, (callFunc cf args).run Tryz.prog w = .ok (.enter cf args) w) (B : Nat) (v : Value) (f : List Ck) (w : World) (h : OwnE Ecc w B v f) (hn : f.length ≤ 2000)
  (hq : ∀ (c : Ck) (W : World), w.grownBy W v.ownBlock → Calls Tryz.prog cf (#[.agg (cc c)] ++ lb) W fun e w' => e = .returned (.bool (q c)) ∧ Below W.heap.size W w') :
  Calls Tryz.prog 159 #[v, .func (.func cf) #[] lb] w (DelC q f v w) := by
 rcases h.2 with ⟨rfl, h0⟩ | ⟨g, cap, cur, rfl, _⟩
 ·
  have e : f = [] := List.length_eq_zero_iff.1 h0
  subst e
  have HI := Lib.hid (yji cf lb q eg none 0 0 [] w (zbr _ _ _ _) rfl (by omega) fun c W b => hq c W (zeq b))
  clear h h0 hn hq
  go_enter Tryz.func159, Tryz.ntmps159
  go_wp2_with fail
  refine HI.out.mono ?_
  rintro e w1 ⟨g1, ⟨rfl, hf⟩ | ⟨k, rfl, hk, hd, hf⟩⟩
  ·
   have G1 : Hid (w.grownBy w1 none) := zeq g1
   clear hf g1 HI
   go_wp2_with fail
   go_ret
   exact ⟨_, rfl, zbr _ _ _ _, fun _ e => e, G1.out⟩
  ·
   exact absurd hk (Nat.not_lt_zero _)
 ·
  exact ypi cf lb q eg B g _ cap f w h rfl hn hq
end
def zqw (fin c : Ck) : Bool := decide (c.epoch.toNat ≤ fin.epoch.toNat)
theorem zxc : ∀ args w, (callFunc 158 args).run Tryz.prog w = .ok (.enter 158 args) w := zbe Tryz.func158 (by kernel_rfl) (by kernel_rfl)
theorem ycl (bf : Nat) (fin c : Ck) (w : World) (h : w.heap[bf]? = some (.cells (cc fin) 36 (0, 0))) :
  Calls Tryz.prog 158 #[.agg (cc c), .pointer (some ⟨bf, 0, none⟩)] w fun e w' => e = .returned (.bool (zqw fin c)) ∧ Below w.heap.size w w' := by
 obtain ⟨A, hA⟩ : ∃ A, A = c.epoch.toNat := ⟨_, rfl⟩
 obtain ⟨B, hB⟩ : ∃ B, B = fin.epoch.toNat := ⟨_, rfl⟩
 have hT : zqw fin c = decide (A ≤ B) := by rw [hA, hB]; rfl
 rw [hT]
 obtain ⟨W0, hW0⟩ : ∃ W0, W0 = w.alloc (.cells (cc c) 36) := ⟨_, rfl⟩
 have HB : Hid (Below w.heap.size w W0) := by rw [hW0]; exact below1
 have y0 := (ck_v (show W0.heap[w.heap.size]? = _ from by rw [hW0]; exact heap_alloc_last w _)).e
 have y1 := (ck_v (zab HB.out h)).e
 rw [← hA] at y0
 rw [← hB] at y1
 have HW := Lib.hid hW0
 have t4 : decide ((A : Int) ≤ (B : Int)) = decide (A ≤ B) := decide_eq_decide.2 (by omega)
 obtain ⟨E, hE⟩ : ∃ E, E = decide (A ≤ B) := ⟨_, rfl⟩
 rw [← hE] at t4 ⊢
 have t4' : decide (A ≤ B) = E := hE.symm
 clear hW0 h hA hB hT hE
 go_enter Tryz.func158, Tryz.ntmps158
 go_upto_region 1 with fail
 rw [← HW.out]
 go_wp2_with fail
 go_ret
 exact ⟨rfl, HB.out⟩
def ysj (fin : Ck) (f : List Ck) (B : Nat) (w : World) (e : Ending) (w' : World) : Prop := ∃ v, e = .returned v ∧ SlE Ecc w' v (f.filter fun c => !zqw fin c) ∧ Below B w w'
theorem ylb (bf B : Nat) (v : Value) (fin : Ck) (f : List Ck) (w : World) (h : OwnE Ecc w B v f) (hn : f.length ≤ 2000) (hB : B ≤ w.heap.size) (hbf : bf < B) (hb : w.heap[bf]? = some (.cells (cc fin) 36 (0, 0))) :
  Calls Tryz.prog 159 #[v, .func (.func 158) #[] #[.pointer (some ⟨bf, 0, none⟩)]] w (ysj fin f B w) :=
 (delC 158 #[.pointer (some ⟨bf, 0, none⟩)] (zqw fin) zxc B v f w h hn fun c W hg => ycl bf fin c W ((hg.block bf (Nat.lt_of_lt_of_le hbf hB) (fun e => by have := (zbi h e.symm).1; omega)).trans hb)).mono
  fun _ _ ⟨u, e, hs, _, hg⟩ => ⟨u, e, hs, (Below.refl B w).grown hg hB fun b hb => (zbi h hb).1⟩
theorem zrw : ∀ args w, (callFunc 159 args).run Tryz.prog w = .ok (.enter 159 args) w := zbe Tryz.func159 (by kernel_rfl) (by kernel_rfl)
end Go.Proofs.YtkalofboioffiaaGreat
