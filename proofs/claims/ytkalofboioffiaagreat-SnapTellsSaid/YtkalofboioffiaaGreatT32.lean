import Derived.Laws.IdiomCopy
import Derived.Deep.Upon
import Derived.Lib.EndianMore
import Derived.Test.YtkalofboioffiaaGreatT31
import Derived.Test.YtkalofboioffiaaGreatT26
namespace Go.Proofs.YtkalofboioffiaaGreat
open Go.RowKit
set_option maxRecDepth 200000
set_option maxHeartbeats 64000000
theorem ziz {w W : World} {r : Option Nat} (b : Below w.heap.size w W) : w.grownBy W r := ⟨b.os, b.tape, b.output, b.size, fun k hk _ => b.block k hk⟩
theorem zm7 {w W W' : World} {r : Option Nat} (h : w.grownBy W r) (b : Below W.heap.size W W') : w.grownBy W' r :=
 ⟨b.os.trans h.os, b.tape.trans h.tape, b.output.trans h.output, Nat.le_trans h.size b.size, fun k hk hr => (b.block k (Nat.lt_of_lt_of_le hk h.size)).trans (h.block k hk hr)⟩
theorem z5f {w W : World} {g o : Nat} {v : Value} (h : w.grownBy W (some g)) : w.grownBy (stA W (.pointer (some ⟨g, o, none⟩)) v) (some g) := by
 have b : Below 0 W (stA W (.pointer (some ⟨g, o, none⟩)) v) := zas (Below.refl _ _) (Nat.zero_le _)
 refine ⟨b.os.trans h.os, b.tape.trans h.tape, b.output.trans h.output, Nat.le_trans h.size b.size, fun k hk hr => ?_⟩
 rw [zf3 (fun e => hr (by rw [e]))]
 exact h.block k hk hr
theorem zot {w W : World} {g : Nat} (h : w.grownBy W (some g)) (vs : List Value) (o : Nat) : w.grownBy (W.setCells g o vs) (some g) := by
 have b := Lib.below_setCells_w (B := 0) (Nat.zero_le g) vs o W
 refine ⟨b.os.trans h.os, b.tape.trans h.tape, b.output.trans h.output, Nat.le_trans h.size b.size, fun k hk hr => ?_⟩
 rw [World.heap_setCells_other W g o vs (Nat.lt_of_lt_of_le hk h.size) (fun e => hr (by rw [e]))]
 exact h.block k hk hr
theorem zo3 {P : Program} {t e : TypeId} {z : Array Value} (ht : P.underlying t = some (.slice e)) (hv : ∀ w, (zeroValue e).run P w = .ok (.agg z) w) (hz : ∀ v ∈ z.toList, v.oneCell' = true) (hp : 0 < z.size) (w : World) (g o m c : Nat) (hm : 0 < m) (h : w.there g o (m * z.size)) :
  ∃ vs, vs.length = m * z.size ∧ ∀ ty, (Builtin.clear_ #[t] ty #[.slice (some ⟨g, o, none⟩) m c]).run P w = .ok (.tuple #[]) (w.setCells g o vs) := by
 have hsz : (Builtin.zeroCells z m).toList.length = m * z.size := by simp [Builtin.zeroCells]
 refine ⟨(Builtin.zeroCells z m).toList, hsz, fun ty => ?_⟩
 have hone : ∀ v ∈ (Builtin.zeroCells z m).toList, v.oneCell' = true := fun v hv => by
  simp only [Builtin.zeroCells, Array.toList_map, Array.toList_range, List.mem_map, List.mem_range] at hv
  obtain ⟨j, _, rfl⟩ := hv
  have hj : j % z.size < z.size := Nat.mod_lt _ hp
  rw [getElem!_pos z _ hj]
  exact hz _ (Array.getElem_mem_toList ..)
 have hst := run_storeCells_cells (P := P) g o (Builtin.zeroCells z m).toList 0 w (fun j hj => (h j (by rw [← hsz]; exact hj)).1) (fun j hj => (h j (by rw [← hsz]; exact hj)).2) hone
 simp only [Nat.add_zero] at hst
 obtain ⟨m', rfl⟩ : ∃ m', m = m' + 1 := ⟨m - 1, by omega⟩
 simp [Builtin.clear_, run_underlying ht, hv, Value.cells, hst]
section
open Go.RowKit
def IdxC (p : Ck → Bool) (l : List Ck) (w : World) (e : Ending) (w' : World) : Prop :=
 Below w.heap.size w w' ∧ ((e = .returned (.int .i64 (-1)) ∧ (l.filter fun c => !p c) = l) ∨ ∃ k : Nat, e = .returned (.int .i64 (k : Int)) ∧ k < l.length ∧ p (ckAt l k) = true ∧ ((l.take k).filter fun c => !p c) = l.take k)
theorem z22 {p : Ck → Bool} {l : List Ck} {j : Nat} (hj : j < l.length) (h : ((l.take j).filter fun c => !p c) = l.take j) (hk : p (ckAt l j) = false) : ((l.take (j + 1)).filter fun c => !p c) = l.take (j + 1) := by
 rw [List.take_add_one, List.getElem?_eq_getElem hj, List.filter_append, h]
 congr 1
 rw [zcv hj] at hk
 show List.filter _ [_] = [_]
 rw [List.filter_cons, hk]
 rfl
theorem ydl (cf : Nat) (lb : Array Value) (q : Ck → Bool) (eg : ∀ args w, (callFunc cf args).run Tryz.prog w = .ok (.enter cf args) w) (p : Option Addr) (n cp : Nat) (l : List Ck) (w : World) (h : SlE Ecc w (.slice p n cp) l) (hl : l.length = n) (hn : n ≤ 2000)
  (hq : ∀ (c : Ck) (W : World), Below w.heap.size w W → Calls Tryz.prog cf (#[.agg (cc c)] ++ lb) W fun e w' => e = .returned (.bool (q c)) ∧ Below W.heap.size W w') :
  Calls Tryz.prog 181 #[.slice p n cp, .func (.func cf) #[] lb] w (IdxC q l w) := by
 have HP := Lib.hid hq
 have K := Lib.hid h
 have HL := Lib.hid hl
 have HN := Lib.hid hn
 clear h hl hn hq
 go_enter Tryz.func181, Tryz.ntmps181
 go_wp2_with fail
 go_loopw [8] (fun i wr => ∃ j : Nat, j ≤ n ∧ i = .int .i64 (j : Int) ∧ ((l.take j).filter fun c => !q c) = l.take j ∧ Below w.heap.size w wr) (fun i _ => n - (intOf i).toNat)
 case atStart => exact ⟨0, Nat.zero_le _, rfl, rfl, Below.refl _ _⟩
 case round =>
  obtain ⟨j, hj, rfl, hf, hg⟩ := hrel
  have HF := Lib.hid hf
  have HG := Lib.hid hg
  clear hf hg
  by_cases hlt : j < n
  ·
   have i0 : (0 : Int) ≤ (j : Int) := by omega
   have i1 : (j : Int) < (n : Int) := by omega
   have d0 : decide ((j : Int) < (n : Int)) = true := decide_eq_true i1
   have d0' : decide (j < n) = true := decide_eq_true hlt
   have u1 : (j : Int) + 1 < 10000 := by have := HN.out; omega
   have HLT := Lib.hid hlt
   obtain ⟨b1, o1, rfl, q1, x1⟩ := zdq K.out (by have := HL.out; omega)
   have y1 := Go.Proofs.YtkalofboioffiaaGreat.keep HG.out (zgi x1 (i := j) (by have := HL.out; omega))
   have HTk : Hid (q (ckAt l j) = false → ((l.take (j + 1)).filter fun c => !q c) = l.take (j + 1)) := z22 (by rw [HL.out]; exact hlt) HF.out
   have HQ := Lib.hid (HP.out (ckAt l j) wr HG.out)
   obtain ⟨r, hr⟩ : ∃ r, r = q (ckAt l j) := ⟨_, rfl⟩
   rw [← hr] at HTk HQ
   have HR := Lib.hid hr
   generalize ckAt l j = C at y1 HQ
   clear x1 q1 hlt hj hr
   go_wp2_with fail
   refine HQ.out.mono ?_
   rintro e w1 ⟨rfl, g⟩
   have G1 := Lib.hid (zab HG.out g)
   clear g y1
   cases r
   ·
    go_wp2_with fail
    go_roundw
    case rel => exact ⟨j + 1, HLT.out, by go_num, (by have := HTk.out; simpa using this), G1.out⟩
    case measure => simp [intOf]; have := HLT.out; omega
   ·
    go_wp2_with fail
    go_ret
    exact ⟨G1.out, .inr ⟨j, rfl, by rw [HL.out]; exact HLT.out, HR.out.symm, HF.out⟩⟩
  ·
   obtain rfl : j = n := by omega
   have d0 : decide ((j : Int) < (j : Int)) = false := decide_eq_false (Int.lt_irrefl _)
   have d0' : decide (j < j) = false := decide_eq_false (Nat.lt_irrefl _)
   have HE : Hid ((l.filter fun c => !q c) = l) := by
    have := HF.out
    rwa [List.take_of_length_le (by rw [HL.out]; exact Nat.le_refl _)] at this
   clear hlt
   go_wp2_with fail
   go_ret
   exact ⟨HG.out, .inl ⟨rfl, HE.out⟩⟩
theorem z1v {w : World} {base g n c : Nat} {l : List Ck} (h : OwnE Ecc w base (.slice (some ⟨g, 0, none⟩) n c) l) (hl : l.length = n) : w.there g 0 (n * 33) := fun x hx => by
 have hi : x / 33 < n := by omega
 have := zd3.1 (z61 h hl hi) (x % 33) (Nat.mod_lt _ (by decide))
 have e : 0 + x / 33 * Ecc.n + x % 33 = 0 + x := by show 0 + x / 33 * 33 + x % 33 = 0 + x; omega
 rw [e] at this
 exact this
theorem z2n (w : World) (g i m c : Nat) (hm : 0 < m) (h : w.there g (i * 33) (m * 33)) : ∃ vs, vs.length = m * 33 ∧ ∀ ty, (Builtin.clear_ #[32] ty #[.slice (some ⟨g, i * 33, none⟩) m c]).run Tryz.prog w = .ok (.tuple #[]) (w.setCells g (i * 33) vs) := by
 have hN : (cc zcc).size = 33 := zax zcc
 have := zo3 (P := Tryz.prog) (z := cc zcc) Tryz.underlying32 zss (fun v hv => Ecc.one zcc v (by show v ∈ ccL zcc; rw [← zbm]; exact hv)) (by rw [hN]; decide) w g (i * 33) m c hm (by rw [hN]; exact h)
 rwa [hN] at this
theorem zvv {w : World} {base g n c i : Nat} {l : List Ck} {vs : List Value} (h : OwnE Ecc w base (.slice (some ⟨g, 0, none⟩) n c) l) (hl : l.length = n) (hi : i ≤ n) : SlE Ecc (w.setCells g (i * 33) vs) (.slice (some ⟨g, 0, none⟩) i c) (l.take i) := by
 have hb := (zc4 h (b := g) rfl)
 have hB := Lib.below_setCells_w (B := base) hb.1 vs (i * 33) w
 obtain ⟨p, c', e, hc, hh⟩ := za2 h
 injection e with e1 e2 e3
 subst e3
 refine ⟨_, c, by rw [List.length_take, hl, Nat.min_eq_left hi], by rw [List.length_take]; omega, ?_⟩
 rcases hh with rfl | ⟨b, off, e4, hlt, hx⟩
 ·
  left; exact List.take_nil
 ·
  rw [← e1] at e4
  injection e4 with e4
  injection e4 with e4 e5
  subst e4 e5
  refine .inr ⟨g, 0, rfl, Nat.lt_of_lt_of_le hlt hB.size, ?_⟩
  have hsplit : zaq Ecc l = zaq Ecc (l.take i) ++ zaq Ecc (l.drop i) := by rw [← zdc, List.take_append_drop]
  have hlen : (zaq Ecc (l.take i)).length = i * 33 := by rw [zbl, List.length_take, Nat.min_eq_left (by omega)]; rfl
  refine World.rangeAt_setCells_apart (fun j v hv => hx j v ?_) g (i * 33) vs (.inr (.inl (by rw [hlen]; omega)))
  rw [hsplit, List.getElem?_append_left (List.getElem?_eq_some_iff.1 hv).1]
  exact hv
theorem yab (g n c i : Nat) (hi : i < n) (hc : n ≤ c) : z4m 33 (.slice (some ⟨g, 0, none⟩) n c) (.int .i64 (i : Int)) = some (.slice (some ⟨g, i * 33, none⟩) (n - i) (c - i)) := by
 show (if 0 ≤ (i : Int) ∧ (i : Int) ≤ (n : Int) then some (sliced (some ⟨g, 0, none⟩) (i : Int).toNat n c 33) else none) = _
 rw [if_pos (by omega), Int.toNat_natCast]
 unfold sliced
 rw [if_neg (by omega)]
 simp [Addr.add_mid]
theorem yew (g n c i : Nat) (hi : i ≤ n) (hc : n ≤ c) (h0 : 0 < c) : zsy 33 (.slice (some ⟨g, 0, none⟩) n c) (.int .i64 (i : Int)) = some (.slice (some ⟨g, 0, none⟩) i c) := by
 show (if 0 ≤ (i : Int) ∧ (i : Int) ≤ (c : Int) then some (sliced (some ⟨g, 0, none⟩) 0 (i : Int).toNat c 33) else none) = _
 rw [if_pos (by omega), Int.toNat_natCast]
 unfold sliced
 rw [if_neg (by omega)]
 simp [Addr.add]
@[local go_sem ↓ high] theorem yjm (ρ : Operand → Value) (dst : Option Tmp) (x hi : Operand) (ty : TypeId) (pos : String) (after : Array Edge) (guard : Option (Nat × Bool)) (w : World) :
  (execOp ρ { dst, op := .slice 32 x none (some hi) none, type := ty, pos, after, guard }).run Tryz.prog w = zgh (zsy 33 (ρ x) (ρ hi)) w (zbf Tryz.prog ρ { dst, op := .slice 32 x none (some hi) none, type := ty, pos, after, guard } w) :=
 zql Tryz.underlying32 Tryz.sizeOf36 ρ dst x hi ty pos after guard w
structure DlC (p : Ck → Bool) (f a : List Ck) (n i j : Nat) : Prop where
 len : a.length = n
 lt : i < j
 le : j ≤ n
 lo : a.take i = (f.take j).filter fun c => !p c
 hi : ∀ x, j ≤ x → x < n → ckAt a x = ckAt f x
section
variable {p : Ck → Bool} {f a : List Ck} {n i j : Nat}
theorem zko (hl : f.length = n) (hj : j < n) : f.take (j + 1) = f.take j ++ [ckAt f j] := by
 rw [List.take_add_one, List.getElem?_eq_getElem (by omega), zcv (by omega)]; rfl
theorem DlC.skip (h : DlC p f a n i j) (hl : f.length = n) (hj : j < n) (hk : p (ckAt f j) = true) : DlC p f a n i (j + 1) := by
 refine ⟨h.len, Nat.lt_succ_of_lt h.lt, hj, ?_, fun x hx hn => h.hi x (by omega) hn⟩
 rw [h.lo, zko hl hj, List.filter_append]
 have : List.filter (fun c => !p c) [ckAt f j] = [] := by rw [List.filter_cons, hk]; rfl
 rw [this, List.append_nil]
theorem DlC.stay (h : DlC p f a n i j) (hl : f.length = n) (hj : j < n) (hk : p (ckAt f j) = false) : DlC p f (a.set i (ckAt f j)) n (i + 1) (j + 1) := by
 have hlt := h.lt
 have hlen := h.len
 refine ⟨by rw [List.length_set]; exact hlen, by omega, hj, ?_, fun x hx hn => ?_⟩
 ·
  rw [zko hl hj, List.filter_append, ← h.lo]
  have : List.filter (fun c => !p c) [ckAt f j] = [ckAt f j] := by rw [List.filter_cons, hk]; rfl
  rw [this, List.take_add_one, List.getElem?_set_self (by omega), List.take_set, List.set_eq_of_length_le (by rw [List.length_take]; omega)]
  rfl
 ·
  have := h.hi x (by omega) hn
  unfold ckAt at this ⊢
  rw [List.getD_eq_getElem?_getD, List.getElem?_set_ne (by omega), ← List.getD_eq_getElem?_getD]
  exact this
theorem DlC.start (hl : f.length = n) (hi : i < n) (h : ((f.take i).filter fun c => !p c) = f.take i) (hk : p (ckAt f i) = true) : DlC p f f n i (i + 1) := by
 refine ⟨hl, Nat.lt_succ_self i, hi, ?_, fun _ _ _ => rfl⟩
 rw [zko hl hi, List.filter_append, h]
 have : List.filter (fun c => !p c) [ckAt f i] = [] := by rw [List.filter_cons, hk]; rfl
 rw [this, List.append_nil]
end
def DelC (p : Ck → Bool) (f : List Ck) (v0 : Value) (w : World) (e : Ending) (w' : World) : Prop := ∃ v, e = .returned v ∧ SlE Ecc w' v (f.filter fun c => !p c) ∧ (∀ b, v.ownBlock = some b → v0.ownBlock = some b) ∧ w.grownBy w' v0.ownBlock
theorem yif (cf : Nat) (lb : Array Value) (q : Ck → Bool) (eg : ∀ args w, (callFunc cf args).run Tryz.prog w = .ok (.enter cf args) w) (B g n c : Nat) (f : List Ck) (w : World) (h : OwnE Ecc w B (.slice (some ⟨g, 0, none⟩) n c) f) (hl : f.length = n) (hn : n ≤ 2000)
  (hq : ∀ (c : Ck) (W : World), w.grownBy W (some g) → Calls Tryz.prog cf (#[.agg (cc c)] ++ lb) W fun e w' => e = .returned (.bool (q c)) ∧ Below W.heap.size W w') :
  Calls Tryz.prog 159 #[.slice (some ⟨g, 0, none⟩) n c, .func (.func cf) #[] lb] w (DelC q f (.slice (some ⟨g, 0, none⟩) n c) w) := by
 have HP := Lib.hid hq
 have HI := Lib.hid (ydl cf lb q eg (some ⟨g, 0, none⟩) n c f w (za2 h) hl hn fun c W b => hq c W (ziz b))
 have HO := Lib.hid h
 have HL := Lib.hid hl
 have HN := Lib.hid hn
 have HCp : Hid (n ≤ c) := by
  obtain ⟨_, _, e, hh⟩ := zal (za2 h)
  injection e with _ e2 e3
  show n ≤ c
  omega
 have HGs : Hid (g < w.heap.size) := (zc4 h (b := g) rfl).2
 clear h hl hn hq
 go_enter Tryz.func159, Tryz.ntmps159
 go_wp2_with fail
 refine HI.out.mono ?_
 rintro e w1 ⟨g1, ⟨rfl, hf⟩ | ⟨k, rfl, hk, hd, hf⟩⟩
 ·
  have HF := Lib.hid hf
  have G1 : Hid (w.grownBy w1 (some g)) := ziz g1
  replace HO := Lib.hid (za5 g1 HO.out)
  clear hf g1 HI
  go_wp2_with fail
  go_ret
  exact ⟨_, rfl, by rw [HF.out]; exact za2 HO.out, fun _ e => e, G1.out⟩
 ·
  have G1 : Hid (w.grownBy w1 (some g)) := ziz g1
  replace HO := Lib.hid (za5 g1 HO.out)
  have D0 : Hid (DlC q f f n k (k + 1)) := DlC.start HL.out (by rw [← HL.out]; exact hk) hf hd
  have HK : Hid (k < n) := by show k < n; rw [← HL.out]; exact hk
  have e1 : ((k : Int) == -1) = false := beq_eq_false_iff_ne.2 (by omega)
  have u0 : (k : Int) + 1 < 10000 := by have := HK.out; have := HN.out; omega
  clear hf hd hk g1 HI
  go_wp2_with fail
  go_loopw [5, 6] (fun a b wr => ∃ (i j : Nat) (l : List Ck), a = .int .i64 (i : Int) ∧ b = .int .i64 (j : Int) ∧ DlC q f l n i j ∧ OwnE Ecc wr B (.slice (some ⟨g, 0, none⟩) n c) l ∧ w.grownBy wr (some g)) (fun _ b _ => n - (intOf b).toNat)
  case atStart => exact ⟨k, k + 1, f, rfl, by go_num, D0.out, HO.out, G1.out⟩
  case round =>
   obtain ⟨i, j, l, rfl, rfl, hd, ho, hg⟩ := hrel
   have D := Lib.hid hd
   replace HO := Lib.hid ho
   replace G1 := Lib.hid hg
   clear hd ho hg D0 u0 e1
   by_cases hlt : j < n
   ·
    have i0 : (0 : Int) ≤ (j : Int) := by omega
    have i1 : (j : Int) < (n : Int) := by omega
    have d0 : decide ((j : Int) < (n : Int)) = true := decide_eq_true i1
    have d0' : decide (j < n) = true := decide_eq_true hlt
    have i2 : (0 : Int) ≤ (i : Int) := by omega
    have i3 : (i : Int) < (n : Int) := by have := D.out.lt; omega
    have u1 : (j : Int) + 1 < 10000 := by have := HN.out; omega
    have u2 : (i : Int) + 1 < 10000 := by have := D.out.lt; have := HN.out; omega
    have HLT := Lib.hid hlt
    obtain ⟨_, o1, e1, _, x1⟩ := zdq (za2 HO.out) (by rw [D.out.len]; omega)
    injection e1 with e1
    injection e1 with e1 e2
    subst e1 e2
    have y1 := zgi x1 (i := j) (by rw [D.out.len]; exact hlt)
    rw [D.out.hi j (Nat.le_refl _) hlt, Nat.zero_add] at y1
    have HSk : Hid (q (ckAt f j) = true → DlC q f l n i (j + 1)) := D.out.skip HL.out hlt
    have HSy : Hid (q (ckAt f j) = false → DlC q f (l.set i (ckAt f j)) n (i + 1) (j + 1)) := D.out.stay HL.out hlt
    have HQ := Lib.hid (HP.out (ckAt f j))
    obtain ⟨r, hr⟩ : ∃ r, r = q (ckAt f j) := ⟨_, rfl⟩
    rw [← hr] at HSk HSy HQ
    obtain ⟨C, hC⟩ : ∃ C, C = ckAt f j := ⟨_, rfl⟩
    rw [← hC] at y1 HQ HSy
    clear x1 hlt hr hC
    go_upto_region 8 with fail
    obtain ⟨V, hV⟩ : ∃ V, V = wr.alloc (.cells (cc C) 36) := ⟨_, rfl⟩
    rw [← hV]
    have g5 : Below wr.heap.size wr V := by rw [hV]; exact below1
    have X5 : Hid (V.heap[wr.heap.size]? = some (.cells (cc C) 36 (0, 0))) := by show _ = _; rw [hV]; exact heap_alloc_last wr _
    replace HO := Lib.hid (za5 g5 HO.out)
    replace G1 : Hid (w.grownBy V (some g)) := zm7 G1.out g5
    obtain ⟨Q, hQ⟩ : ∃ Q, Q = wr.heap.size := ⟨_, rfl⟩
    rw [← hQ] at X5 ⊢
    clear hV y1 hQ g5
    have z2 := zar X5.out (zax C)
    go_wp2_with fail
    refine (HQ.out V G1.out).mono ?_
    rintro e V1 ⟨rfl, gg⟩
    replace HO := Lib.hid (za5 gg HO.out)
    replace G1 : Hid (w.grownBy V1 (some g)) := zm7 G1.out gg
    replace X5 := Lib.hid (zac gg X5.out)
    clear gg z2
    cases r
    ·
     have z2 := zar X5.out (zax C)
     have z3 := z61 HO.out D.out.len (i := i) (by have := D.out.lt; have := HLT.out; omega)
     have z3' : wrA V1 (.pointer (some ⟨g, i * 33, none⟩)) 33 = true := by rw [show i * 33 = 0 + i * Ecc.n from (Nat.zero_add _).symm]; exact z3
     clear z3
     go_wp2_with fail
     go_roundw
     case rel => exact ⟨i + 1, j + 1, l.set i C, by go_num, by go_num, (by have := HSy.out; simpa using this), ybq HO.out D.out.len (by have := D.out.lt; have := HLT.out; omega) C (zbm C), z5f G1.out⟩
     case measure => simp [intOf]; have := HLT.out; omega
    ·
     go_wp2_with fail
     go_roundw
     case rel => exact ⟨i, j + 1, l, rfl, by go_num, (by have := HSk.out; simpa using this), HO.out, G1.out⟩
     case measure => simp [intOf]; have := HLT.out; omega
   ·
    have HJ : Hid (j = n) := by show j = n; have := D.out.le; omega
    have d0 : decide ((j : Int) < (n : Int)) = false := decide_eq_false (by omega)
    have d0' : decide (j < n) = false := decide_eq_false hlt
    have HIl : Hid (i < n) := by show i < n; have := D.out.lt; have := D.out.le; omega
    have HF : Hid (l.take i = f.filter fun c => !q c) := by
     show _ = _
     rw [D.out.lo, HJ.out, List.take_of_length_le (by rw [HL.out]; exact Nat.le_refl _)]
    have c1 := yab g n c i HIl.out HCp.out
    have c2 := yew g n c i (Nat.le_of_lt HIl.out) HCp.out (by have := HIl.out; have := HCp.out; omega)
    obtain ⟨vs, hvs, hcl⟩ := z2n wr g i (n - i) (c - i) (by have := HIl.out; omega) (fun x hx => by
     have h1 := z1v HO.out D.out.len (i * 33 + x) (by have := HIl.out; have e : (n - i) * 33 = n * 33 - i * 33 := Nat.sub_mul _ _ _; rw [e] at hx; omega)
     rw [Nat.zero_add] at h1
     exact h1)
    have S := Lib.hid (zvv (vs := vs) HO.out D.out.len (Nat.le_of_lt HIl.out))
    have G2 : Hid (w.grownBy (wr.setCells g (i * 33) vs) (some g)) := zot G1.out vs (i * 33)
    generalize wr.setCells g (i * 33) vs = wc at *
    clear hlt hvs
    go_wp2_with fail
    go_ret
    exact ⟨_, rfl, by rw [← HF.out]; exact S.out, fun _ e => e, G2.out⟩
theorem delC (cf : Nat) (lb : Array Value) (q : Ck → Bool) (eg : ∀ args w, (callFunc cf args).run Tryz.prog w = .ok (.enter cf args) w) (B : Nat) (v : Value) (f : List Ck) (w : World) (h : OwnE Ecc w B v f) (hn : f.length ≤ 2000)
  (hq : ∀ (c : Ck) (W : World), w.grownBy W v.ownBlock → Calls Tryz.prog cf (#[.agg (cc c)] ++ lb) W fun e w' => e = .returned (.bool (q c)) ∧ Below W.heap.size W w') :
  Calls Tryz.prog 159 #[v, .func (.func cf) #[] lb] w (DelC q f v w) := by
 rcases h.2 with ⟨rfl, h0⟩ | ⟨g, cap, cur, rfl, _⟩
 ·
  have e : f = [] := List.length_eq_zero_iff.1 h0
  subst e
  have HI := Lib.hid (ydl cf lb q eg none 0 0 [] w (zbg _ _ _ _) rfl (by omega) fun c W b => hq c W (ziz b))
  clear h h0 hn hq
  go_enter Tryz.func159, Tryz.ntmps159
  go_wp2_with fail
  refine HI.out.mono ?_
  rintro e w1 ⟨g1, ⟨rfl, hf⟩ | ⟨k, rfl, hk, hd, hf⟩⟩
  ·
   have G1 : Hid (w.grownBy w1 none) := ziz g1
   clear hf g1 HI
   go_wp2_with fail
   go_ret
   exact ⟨_, rfl, zbg _ _ _ _, fun _ e => e, G1.out⟩
  ·
   exact absurd hk (Nat.not_lt_zero _)
 ·
  exact yif cf lb q eg B g _ cap f w h rfl hn hq
end
def zns (fin c : Ck) : Bool := decide (c.epoch.toNat ≤ fin.epoch.toNat)
theorem zs3 : ∀ args w, (callFunc 158 args).run Tryz.prog w = .ok (.enter 158 args) w := za7 Tryz.func158 (by kernel_rfl) (by kernel_rfl)
theorem z7d (bf : Nat) (fin c : Ck) (w : World) (h : w.heap[bf]? = some (.cells (cc fin) 36 (0, 0))) :
  Calls Tryz.prog 158 #[.agg (cc c), .pointer (some ⟨bf, 0, none⟩)] w fun e w' => e = .returned (.bool (zns fin c)) ∧ Below w.heap.size w w' := by
 obtain ⟨A, hA⟩ : ∃ A, A = c.epoch.toNat := ⟨_, rfl⟩
 obtain ⟨B, hB⟩ : ∃ B, B = fin.epoch.toNat := ⟨_, rfl⟩
 have hT : zns fin c = decide (A ≤ B) := by rw [hA, hB]; rfl
 rw [hT]
 obtain ⟨W0, hW0⟩ : ∃ W0, W0 = w.alloc (.cells (cc c) 36) := ⟨_, rfl⟩
 have HB : Hid (Below w.heap.size w W0) := by rw [hW0]; exact below1
 have y0 := (ck_v (show W0.heap[w.heap.size]? = _ from by rw [hW0]; exact heap_alloc_last w _)).e
 have y1 := (ck_v (zac HB.out h)).e
 rw [← hA] at y0
 rw [← hB] at y1
 have HW := Lib.hid hW0
 have t4 : decide ((A : Int) ≤ (B : Int)) = decide (A ≤ B) := decide_eq_decide.2 (by omega)
 obtain ⟨E, hE⟩ : ∃ E, E = decide (A ≤ B) := ⟨_, rfl⟩
 rw [← hE] at t4 ⊢
 have t4' : decide (A ≤ B) = E := hE.symm
 clear hW0 h hA hB hT hE
 go_enter Tryz.func158, Tryz.ntmps158
 go_upto_region 1 with fail
 rw [← HW.out]
 go_wp2_with fail
 go_ret
 exact ⟨rfl, HB.out⟩
def ylh (fin : Ck) (f : List Ck) (B : Nat) (w : World) (e : Ending) (w' : World) : Prop := ∃ v, e = .returned v ∧ SlE Ecc w' v (f.filter fun c => !zns fin c) ∧ Below B w w'
theorem yey (bf B : Nat) (v : Value) (fin : Ck) (f : List Ck) (w : World) (h : OwnE Ecc w B v f) (hn : f.length ≤ 2000) (hB : B ≤ w.heap.size) (hbf : bf < B) (hb : w.heap[bf]? = some (.cells (cc fin) 36 (0, 0))) :
  Calls Tryz.prog 159 #[v, .func (.func 158) #[] #[.pointer (some ⟨bf, 0, none⟩)]] w (ylh fin f B w) :=
 (delC 158 #[.pointer (some ⟨bf, 0, none⟩)] (zns fin) zs3 B v f w h hn fun c W hg => z7d bf fin c W ((hg.block bf (Nat.lt_of_lt_of_le hbf hB) (fun e => by have := (zc4 h e.symm).1; omega)).trans hb)).mono
  fun _ _ ⟨u, e, hs, _, hg⟩ => ⟨u, e, hs, (Below.refl B w).grown hg hB fun b hb => (zc4 h hb).1⟩
theorem zop : ∀ args w, (callFunc 159 args).run Tryz.prog w = .ok (.enter 159 args) w := za7 Tryz.func159 (by kernel_rfl) (by kernel_rfl)
open Go.RowKit
section
variable {P : Program} {ops : Array Oper} {E : List Nat} {W : World} {Q : Exit → Act → World → Prop} {L : World → World → Prop}
theorem zxz {k : Nat} {o : Oper} {rest : List Oper} {a : Act} {w : World} {σ : List (Nat × World)} (hE : E.contains k = true) (hw : Region.wanted o (yielded ops a.tmps) = true) (w' : World)
  (hrun : (execOp a.eval o).run P w = .ok .skip w') (hl : L w w') (h : wpXL L P ops E W Q (k + 1) rest (a.put o.dst undef) w' ((k, w') :: σ)) : wpXL L P ops E W Q k (o :: rest) a w σ := by
 unfold wpXL
 rw [if_pos hw, if_pos hE]
 unfold zds
 rw [hrun]
 exact ⟨hl, h⟩
end
theorem yb2 (s : SlV) (u vb vj : Value) (l : List Nd) (ls : List Lk) (bal : List UInt64) (js : List Ck) (fin : Ck) (w : World) (h : SlE Ene w (sv s) l) (h1 : SlE Elk w u ls) (h2 : SlE Enum w vb bal) (h3 : SlE Ecc w vj js) (hm : ls.length ≤ 1000) (hn : js.length ≤ 2000) :
  Calls Tryz.prog 129 #[.agg (tr ⟨s⟩), u, vb, vj, .agg (cc fin)] w fun e w' => e = .returned (.agg (cc (znq l ls bal js fin))) ∧ Below w.heap.size w w' := by
 have HF := Lib.hid (fun W (g : Below w.heap.size w W) => z13 s u vb vj l ls bal js W (zad g h) (zad g h1) (zad g h2) (zad g h3) hm hn)
 have HBe := Lib.hid (fun v cs W (g : Below w.heap.size w W) (k : SlE Ecc W v cs) (hc : cs.length ≤ 2000) => zzi s v l cs fin W (zad g h) k hc)
 obtain ⟨r, hr⟩ : ∃ r, r = znq l ls bal js fin := ⟨_, rfl⟩
 have HR : Hid (zh5 l ((zb1 l ls bal js).filter fun c => !zns fin c) fin = r) := by show _ = _; rw [hr]; exact z6j
 have HFl : Hid ((zb1 l ls bal js).length ≤ 2000) := by show _ ≤ _; rw [zmz]; exact Nat.le_trans (List.length_filter_le _ _) hn
 rw [← hr]
 obtain ⟨fs, hfs⟩ : ∃ fs, fs = zb1 l ls bal js := ⟨_, rfl⟩
 rw [← hfs] at HF HR HFl
 obtain ⟨W3, hW3⟩ : ∃ W3, W3 = ((w.alloc (.cells (tr ⟨s⟩) 24)).alloc (.cells (cc fin) 36)).alloc (.cells (cc zcc) 36) := ⟨_, rfl⟩
 obtain ⟨hB, k0, k1, k2, hz0⟩ := zf2 w _ _ _ _ _ _ W3 hW3
 have HB := Lib.hid hB
 have HW := Lib.hid hW3
 have K1 := Lib.hid k1
 have K2 := Lib.hid k2
 have HZ := Lib.hid hz0
 have z0 := (zai k0).2.1
 have z1 := (ck_v k1).a
 clear hW3 hB k0 k1 k2 hz0 hr hfs h h1 h2 h3 hm hn
 go_enter Tryz.func129, Tryz.ntmps129
 go_upto_region 1 with fail
 rw [← HW.out]
 go_upto_region 2 with fail
 have L0 := fun q : WdB (w.heap.size + 2) W3.drew => zyx (show ldA W3.drew _ _ = _ from z0) (by omega) q
 have L1 := fun q : WdB (w.heap.size + 2) W3.drew => zyx (show ldA W3.drew _ _ = _ from z1) (by omega) q
 have G0 : Hid (Below w.heap.size w W3.drew) := zab HB.out (zah (Below.refl _ _) 1)
 have HZd : Hid (W3.drew.heap.size = W3.heap.size) := rfl
 have K1d : Hid (W3.drew.heap[w.heap.size + 1]? = some (.cells (cc fin) 36 (0, 0))) := K1.out
 have K2d : Hid (W3.drew.heap[w.heap.size + 2]? = some (.cells (cc zcc) 36 (0, 0))) := K2.out
 clear z0 z1
 refine zo5 (w.heap.size + 2) [5, 7, 9, 10] (by kernel_rfl) (by kernel_rfl) (by kernel_rfl) ?_
 repeat (refine zij rfl rfl ?_; (first | go_big_quiet_step (fail) | quiet_step (fail)); refine wpQuiet_nil ?_)
 refine zan rfl rfl rfl zj9 #[.agg (tr ⟨s⟩), u, vb, vj] rfl ?_
 refine (HF.out _ G0.out).mono ?_
 rintro e w4 ⟨v4, rfl, ho, g⟩
 have HS3 : Hid (w.heap.size + 2 < W3.drew.heap.size) := (Array.getElem?_eq_some_iff.1 K2d.out).1
 refine ⟨_, rfl, g.mono (Nat.le_of_lt HS3.out), ?_⟩
 simp only [Act.put, List.setIfInBounds_toArray, List.set_cons_zero, List.set_cons_succ]
 have HO := Lib.hid ho
 have G4 := Lib.hid g
 clear ho g HF
 repeat (refine zij rfl rfl ?_; (first | go_big_quiet_step (fail) | quiet_step (fail)); refine wpQuiet_nil ?_)
 refine zan rfl rfl rfl zop #[v4, .func (.func 158) #[] #[.pointer (some ⟨w.heap.size + 1, 0, none⟩)]] rfl ?_
 refine (yey (w.heap.size + 1) W3.drew.heap.size v4 fin fs w4 HO.out HFl.out G4.out.size (by have := HS3.out; omega) (zac G4.out K1d.out)).mono ?_
 rintro e w5 ⟨v5, rfl, hs, g⟩
 refine ⟨_, rfl, g.mono (Nat.le_of_lt HS3.out), ?_⟩
 simp only [Act.put, List.setIfInBounds_toArray, List.set_cons_zero, List.set_cons_succ]
 have S := Lib.hid hs
 have G5 : Hid (Below W3.drew.heap.size W3.drew w5) := G4.out.trans g
 clear hs g HO G4
 repeat (refine zij rfl rfl ?_; (first | go_big_quiet_step (fail) | quiet_step (fail)); refine wpQuiet_nil ?_)
 refine zan rfl rfl rfl zmp #[.agg (tr ⟨s⟩), v5, .agg (cc fin)] rfl ?_
 refine (HBe.out v5 _ w5 (zab G0.out G5.out) S.out (Nat.le_trans (List.length_filter_le _ _) HFl.out)).mono ?_
 rintro e w6 ⟨rfl, g⟩
 rw [HR.out]
 have G6 : Hid (Below W3.drew.heap.size W3.drew w6) := zab G5.out g
 refine ⟨_, rfl, g.mono (by have := G5.out.size; have := HS3.out; omega), ?_⟩
 simp only [Act.put, List.setIfInBounds_toArray, List.set_cons_zero, List.set_cons_succ]
 have K6 : Hid (w6.heap[w.heap.size + 2]? = some (.cells (cc zcc) 36 (0, 0))) := zac G6.out K2d.out
 have z2 := zau K6.out (zax _)
 clear g
 refine zxz rfl rfl (stA w6 (.pointer (some ⟨w.heap.size + 2, 0, none⟩)) (.agg (cc r))) (by go_simp) (zas (Below.refl _ _) (Nat.le_refl _)) ?_
 simp only [Act.put]
 refine za3 ?_
 clear L0 L1 z2
 have G7 : Hid (Below w.heap.size w w6) := zab G0.out G6.out
 go_wp2_with fail
 exact bodyPost_ret (zao Tryz.isAgg36 Tryz.sizeOf36 _ 10 rfl _ _ _ _ rfl (zar (zgz K6.out) (zax _))) rfl ⟨rfl, zas G7.out (by omega)⟩
theorem z2a (x : En) (g : Eg) (w : World) (h : LaidG w x g) (sg : zep g) :
  Calls Tryz.prog 44 #[.agg (en x)] w fun e w' => e = .returned (.bool (zii g)) ∧ Below w.heap.size w w' := by
 obtain ⟨W0, hW0⟩ : ∃ W0, W0 = w.alloc (.cells (en x) 38) := ⟨_, rfl⟩
 have A : Hid (Gv w W0 w.heap.size x g) := by show Gv _ _ _ _ _; rw [hW0]; exact zi0 h
 have HW := Lib.hid hW0
 have HD := Lib.hid (fun W hh => yf0 (sv x.late) g.late g.now.toNat W hh sg.late)
 have HM := Lib.hid (fun W hh => yf1 (sv x.late) g.late W hh)
 obtain ⟨N, hN⟩ : ∃ N, N = g.now.toNat := ⟨_, rfl⟩
 obtain ⟨D, hD⟩ : ∃ D, D = dueL g.late g.now.toNat := ⟨_, rfl⟩
 obtain ⟨nd, hnd⟩ : ∃ nd, nd = D.length := ⟨_, rfl⟩
 have HN := Lib.hid hnd
 obtain ⟨b1, hb1⟩ : ∃ b, b = decide (N ≤ 1099511627776) := ⟨_, rfl⟩
 obtain ⟨b2, hb2⟩ : ∃ b, b = mayA g.late := ⟨_, rfl⟩
 obtain ⟨b3, hb3⟩ : ∃ b, b = decide (nd = 0) := ⟨_, rfl⟩
 have HF : Hid (zii g = ((b1 && b2) && b3)) := by
  show _ = _
  unfold zii
  rw [hb1, hb2, hb3, hnd, hD, hN]
 rw [← hD, ← hN] at HD
 rw [← hb2] at HM
 have t1 : decide ((N : Int) ≤ 1099511627776) = b1 := by rw [hb1]; exact decide_eq_decide.2 (by omega)
 have t1' : decide (N ≤ 1099511627776) = b1 := hb1.symm
 have t3 : ((nd : Int) == 0) = b3 := by rw [hb3, Bool.eq_iff_iff, beq_iff_eq, decide_eq_true_iff]; omega
 have t3' : decide (nd = 0) = b3 := hb3.symm
 have zl := A.out.zl
 have zn := A.out.zn
 rw [← hN] at zn
 have HZn := Lib.hid zn
 obtain ⟨r, hr⟩ : ∃ r, r = zii g := ⟨_, rfl⟩
 rw [← hr] at HF ⊢
 have HNn := Lib.hid hN
 clear hW0 h sg hD hnd hb1 hb2 hb3 hr hN HZn
 go_enter Tryz.func44, Tryz.ntmps44
 go_upto_region 1 with fail
 rw [← HW.out]
 go_wp2_with fail
 refine (HD.out _ A.out.l.late).mono ?_
 rintro e w1 ⟨v, u, rfl, hv, hu, gg⟩
 obtain ⟨pd, cd, rfl⟩ := yju hv
 rw [← HN.out]
 replace A := Lib.hid (A.out.keep gg)
 clear gg hv hu zl zn HD
 have zl := A.out.zl
 have zn := A.out.zn
 rw [← HNn.out] at zn
 cases b1
 ·
  go_wp2_with fail
  go_ret
  exact ⟨by rw [HF.out]; first | done | rfl, A.out.g⟩
 ·
  go_wp2_with fail
  refine (HM.out _ A.out.l.late).mono ?_
  rintro e w2 ⟨rfl, gg⟩
  replace A := Lib.hid (A.out.keep gg)
  clear gg zl zn HM
  cases b2
  ·
   go_wp2_with fail
   go_ret
   exact ⟨by rw [HF.out]; first | done | rfl, A.out.g⟩
  ·
   go_wp2_with fail
   go_ret
   exact ⟨by rw [HF.out]; first | done | rfl, A.out.g⟩
theorem zkb : ∀ args w, (callFunc 129 args).run Tryz.prog w = .ok (.enter 129 args) w := za7 Tryz.func129 (by kernel_rfl) (by kernel_rfl)
theorem ybz (x : En) (g : Eg) (w : World) (h : LaidG w x g) (sg : zep g) :
  Calls Tryz.prog 93 #[.agg (en x)] w fun e w' => e = .returned (.bool (zvx g)) ∧ Below w.heap.size w w' := by
 obtain ⟨W0, hW0⟩ : ∃ W0, W0 = w.alloc (.cells (en x) 38) := ⟨_, rfl⟩
 have A : Hid (Gv w W0 w.heap.size x g) := by show Gv _ _ _ _ _; rw [hW0]; exact zi0 h
 have HW := Lib.hid hW0
 have HM := Lib.hid (fun W (l : LaidG W x g) => yb1 x.t.n (sv x.k) (sv x.bal) (sv x.j) g.t g.k g.bal g.j W l.t l.k l.bal l.j (Nat.le_trans sg.j (by decide)) sg.k)
 obtain ⟨M, hM⟩ : ∃ M, M = zc3 g.t g.k g.bal g.j := ⟨_, rfl⟩
 obtain ⟨X, hX⟩ : ∃ X, X = znq g.t g.k g.bal g.j g.fin := ⟨_, rfl⟩
 obtain ⟨nm, hnm⟩ : ∃ nm, nm = M.length := ⟨_, rfl⟩
 have HN := Lib.hid hnm
 have HMd := Lib.hid hM
 obtain ⟨⟨pj, nj, cj⟩, hsj⟩ : ∃ s : SlV, s = x.j := ⟨_, rfl⟩
 have HSj := Lib.hid hsj
 have HX := Lib.hid (fun W (l : LaidG W x g) => yb2 x.t.n (sv x.k) (sv x.bal) (.slice pj nj cj) g.t g.k g.bal g.j g.fin W l.t l.k l.bal (by rw [← za0, hsj]; exact l.j) sg.k (Nat.le_trans sg.j (by decide)))
 have HLj : Hid (g.j.length = nj) := by
  obtain ⟨p', c', e, _⟩ := zal h.j
  rw [← hsj] at e
  unfold sv at e; injection e with _ e; exact e.symm
 obtain ⟨b1, hb1⟩ : ∃ b, b = decide (nm = nj) := ⟨_, rfl⟩
 obtain ⟨b2, hb2⟩ : ∃ b, b = decide (X = g.fin) := ⟨_, rfl⟩
 have HF : Hid (zvx g = (b1 && b2)) := by
  show _ = _
  unfold zvx
  rw [hb1, hb2, hnm, hM, hX, HLj.out]
 rw [← hX] at HX
 have t1 : ((nm : Int) == (nj : Int)) = b1 := by rw [hb1, Bool.eq_iff_iff, beq_iff_eq, decide_eq_true_iff]; omega
 have t1' : decide (nm = nj) = b1 := hb1.symm
 have t2 : decide (X = g.fin) = b2 := hb2.symm
 obtain ⟨r, hr⟩ : ∃ r, r = zvx g := ⟨_, rfl⟩
 rw [← hr] at HF ⊢
 clear hW0 h sg hM hX hnm hsj hb1 hb2 hr
 go_enter Tryz.func93, Tryz.ntmps93
 go_upto_region 1 with fail
 rw [← HW.out]
 have zT := A.out.zT
 have zk := A.out.zk
 have zb := A.out.zb
 have zj := A.out.zj
 go_wp2_with fail
 refine (HM.out _ A.out.l).mono ?_
 rintro e w1 ⟨v, rfl, hv, gg⟩
 rw [← HMd.out] at hv
 obtain ⟨pd, cd, rfl⟩ := yju (za2 hv)
 rw [← HN.out]
 replace A := Lib.hid (A.out.keep gg)
 clear gg hv zT zk zb zj HM
 go_upto_region 2 with fail
 cases b1
 ·
  have Q6 := fun q : Wd w1.drew => zbc (show w1.cell? ⟨w.heap.size, 7, none⟩ = some (.slice pj nj cj) from by rw [← za0, HSj.out]; exact A.out.zj) q
  refine zaj [] (by kernel_rfl) (by kernel_rfl) (by kernel_rfl) ?_
  repeat (first | (refine zae rfl rfl _ zaf ?_; (first | go_big_quiet_step (fail) | quiet_step (fail)); refine wpQuiet_nil ?_) | refine zag rfl ?_)
  refine za3 ?_
  clear Q6
  go_wp2_with fail
  go_ret
  exact ⟨by rw [HF.out]; first | done | rfl, zah A.out.g _⟩
 ·
  have Q1 := fun q : Wd w1.drew => zbb A.out.zT (by decide) q
  have Q2 := fun q : Wd w1.drew => zbc A.out.zk q
  have Q3 := fun q : Wd w1.drew => zbc A.out.zb q
  have Q4 := fun q : Wd w1.drew => zbc (show w1.cell? ⟨w.heap.size, 7, none⟩ = some (.slice pj nj cj) from by rw [← za0, HSj.out]; exact A.out.zj) q
  have Q5 := fun q : Wd w1.drew => zbb A.out.zf (by decide) q
  refine zaj [17] (by kernel_rfl) (by kernel_rfl) (by kernel_rfl) ?_
  repeat (refine zae rfl rfl _ zaf ?_; (first | go_big_quiet_step (fail) | quiet_step (fail)); refine wpQuiet_nil ?_)
  refine zan rfl rfl rfl zkb #[.agg (tr ⟨x.t.n⟩), sv x.k, sv x.bal, .slice pj nj cj, .agg (cc g.fin)] rfl ?_
  refine (HX.out _ (A.out.l.keep (zah (Below.refl _ _) 1))).mono ?_
  rintro e w2 ⟨rfl, gg⟩
  refine ⟨_, rfl, gg, ?_⟩
  simp only [Act.put, List.setIfInBounds_toArray, List.set_cons_zero, List.set_cons_succ]
  have G2 : Hid (Below w.heap.size w w2) := zab A.out.g (zab (zah (Below.refl _ _) 1) gg)
  clear gg
  repeat (refine zae rfl rfl _ zaf ?_; (first | go_big_quiet_step (fail) | quiet_step (fail)); refine wpQuiet_nil ?_)
  refine za3 ?_
  clear Q1 Q2 Q3 Q4 Q5
  go_wp2_with fail
  go_ret
  exact ⟨by rw [HF.out]; first | done | rfl, G2.out⟩
end Go.Proofs.YtkalofboioffiaaGreat
