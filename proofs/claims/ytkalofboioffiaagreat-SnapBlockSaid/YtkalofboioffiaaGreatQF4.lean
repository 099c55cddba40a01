import Derived.Test.YtkalofboioffiaaGreatQ31
namespace Go.Proofs.YtkalofboioffiaaGreat
open Go.RowKit
set_option maxRecDepth 200000
set_option maxHeartbeats 64000000
section
open Go.RowKit
def IdxK (p : Lk → Bool) (l : List Lk) (w : World) (e : Ending) (w' : World) : Prop :=
 Below w.heap.size w w' ∧ ((e = .returned (.int .i64 (-1)) ∧ (l.filter fun c => !p c) = l) ∨ ∃ k : Nat, e = .returned (.int .i64 (k : Int)) ∧ k < l.length ∧ p (lkAt l k) = true ∧ ((l.take k).filter fun c => !p c) = l.take k)
theorem z74 {p : Lk → Bool} {l : List Lk} {j : Nat} (hj : j < l.length) (h : ((l.take j).filter fun c => !p c) = l.take j) (hk : p (lkAt l j) = false) : ((l.take (j + 1)).filter fun c => !p c) = l.take (j + 1) := by
 rw [List.take_add_one, List.getElem?_eq_getElem hj, List.filter_append, h]
 congr 1
 rw [zcy hj] at hk
 show List.filter _ [_] = [_]
 rw [List.filter_cons, hk]
 rfl
theorem yjj (cf : Nat) (lb : Array Value) (q : Lk → Bool) (eg : ∀ args w, (callFunc cf args).run Tryz.prog w = .ok (.enter cf args) w) (p : Option Addr) (n cp : Nat) (l : List Lk) (w : World) (h : SlE Elk w (.slice p n cp) l) (hl : l.length = n) (hn : n ≤ 2000)
  (hq : ∀ (c : Lk) (W : World), Below w.heap.size w W → Calls Tryz.prog cf (#[.agg (lk c)] ++ lb) W fun e w' => e = .returned (.bool (q c)) ∧ Below W.heap.size W w') :
  Calls Tryz.prog 191 #[.slice p n cp, .func (.func cf) #[] lb] w (IdxK q l w) := by
 have HP := Lib.hid hq
 have K := Lib.hid h
 have HL := Lib.hid hl
 have HN := Lib.hid hn
 clear h hl hn hq
 go_enter Tryz.func191, Tryz.ntmps191
 go_wp2_with fail
 go_loopw [8] (fun i wr => ∃ j : Nat, j ≤ n ∧ i = .int .i64 (j : Int) ∧ ((l.take j).filter fun c => !q c) = l.take j ∧ Below w.heap.size w wr) (fun i _ => n - (intOf i).toNat)
 case atStart => exact ⟨0, Nat.zero_le _, rfl, rfl, Below.refl _ _⟩
 case round =>
  obtain ⟨j, hj, rfl, hf, hg⟩ := hrel
  have HF := Lib.hid hf
  have HG := Lib.hid hg
  clear hf hg
  by_cases hlt : j < n
  ·
   have i0 : (0 : Int) ≤ (j : Int) := by omega
   have i1 : (j : Int) < (n : Int) := by omega
   have d0 : decide ((j : Int) < (n : Int)) = true := decide_eq_true i1
   have d0' : decide (j < n) = true := decide_eq_true hlt
   have u1 : (j : Int) + 1 < 10000 := by have := HN.out; omega
   have HLT := Lib.hid hlt
   obtain ⟨b1, o1, rfl, q1, x1⟩ := zkj K.out (by have := HL.out; omega)
   have y1 := Go.Proofs.YtkalofboioffiaaGreat.keep HG.out (zqg x1 (i := j) (by have := HL.out; omega))
   have HTk : Hid (q (lkAt l j) = false → ((l.take (j + 1)).filter fun c => !q c) = l.take (j + 1)) := z74 (by rw [HL.out]; exact hlt) HF.out
   have HQ := Lib.hid (HP.out (lkAt l j) wr HG.out)
   obtain ⟨r, hr⟩ : ∃ r, r = q (lkAt l j) := ⟨_, rfl⟩
   rw [← hr] at HTk HQ
   have HR := Lib.hid hr
   generalize lkAt l j = C at y1 HQ
   clear x1 q1 hlt hj hr
   go_wp2_with fail
   refine HQ.out.mono ?_
   rintro e w1 ⟨rfl, g⟩
   have G1 := Lib.hid (zac HG.out g)
   clear g y1
   cases r
   ·
    go_wp2_with fail
    go_roundw
    case rel => exact ⟨j + 1, HLT.out, by go_num, (by have := HTk.out; simpa using this), G1.out⟩
    case measure => simp [intOf]; have := HLT.out; omega
   ·
    go_wp2_with fail
    go_ret
    exact ⟨G1.out, .inr ⟨j, rfl, by rw [HL.out]; exact HLT.out, HR.out.symm, HF.out⟩⟩
  ·
   obtain rfl : j = n := by omega
   have d0 : decide ((j : Int) < (j : Int)) = false := decide_eq_false (Int.lt_irrefl _)
   have d0' : decide (j < j) = false := decide_eq_false (Nat.lt_irrefl _)
   have HE : Hid ((l.filter fun c => !q c) = l) := by
    have := HF.out
    rwa [List.take_of_length_le (by rw [HL.out]; exact Nat.le_refl _)] at this
   clear hlt
   go_wp2_with fail
   go_ret
   exact ⟨HG.out, .inl ⟨rfl, HE.out⟩⟩
theorem z6z {w : World} {base g n c : Nat} {l : List Lk} (h : OwnE Elk w base (.slice (some ⟨g, 0, none⟩) n c) l) (hl : l.length = n) : w.there g 0 (n * 67) := fun x hx => by
 have hi : x / 67 < n := by omega
 have := zd8.1 (zqz h hl hi) (x % 67) (Nat.mod_lt _ (by decide))
 have e : 0 + x / 67 * Elk.n + x % 67 = 0 + x := by show 0 + x / 67 * 67 + x % 67 = 0 + x; omega
 rw [e] at this
 exact this
theorem z7m (w : World) (g i m c : Nat) (hm : 0 < m) (h : w.there g (i * 67) (m * 67)) : ∃ vs, vs.length = m * 67 ∧ ∀ ty, (Builtin.clear_ #[31] ty #[.slice (some ⟨g, i * 67, none⟩) m c]).run Tryz.prog w = .ok (.tuple #[]) (w.setCells g (i * 67) vs) := by
 have hN : (lk zlk).size = 67 := zhk zlk
 have := zjw (P := Tryz.prog) (z := lk zlk) Tryz.underlying31 z2k (fun v hv => Elk.one zlk v (by show v ∈ lkL zlk; rw [← zqf]; exact hv)) (by rw [hN]; decide) w g (i * 67) m c hm (by rw [hN]; exact h)
 rwa [hN] at this
theorem z0d {w : World} {base g n c i : Nat} {l : List Lk} {vs : List Value} (h : OwnE Elk w base (.slice (some ⟨g, 0, none⟩) n c) l) (hl : l.length = n) (hi : i ≤ n) : SlE Elk (w.setCells g (i * 67) vs) (.slice (some ⟨g, 0, none⟩) i c) (l.take i) := by
 have hb := (zbi h (b := g) rfl)
 have hB := Lib.below_setCells_w (B := base) hb.1 vs (i * 67) w
 obtain ⟨p, c', e, hc, hh⟩ := zat h
 injection e with e1 e2 e3
 subst e3
 refine ⟨_, c, by rw [List.length_take, hl, Nat.min_eq_left hi], by rw [List.length_take]; omega, ?_⟩
 rcases hh with rfl | ⟨b, off, e4, hlt, hx⟩
 ·
  left; exact List.take_nil
 ·
  rw [← e1] at e4
  injection e4 with e4
  injection e4 with e4 e5
  subst e4 e5
  refine .inr ⟨g, 0, rfl, Nat.lt_of_lt_of_le hlt hB.size, ?_⟩
  have hsplit : zaq Elk l = zaq Elk (l.take i) ++ zaq Elk (l.drop i) := by rw [← zdy, List.take_append_drop]
  have hlen : (zaq Elk (l.take i)).length = i * 67 := by rw [zbt, List.length_take, Nat.min_eq_left (by omega)]; rfl
  refine World.rangeAt_setCells_apart (fun j v hv => hx j v ?_) g (i * 67) vs (.inr (.inl (by rw [hlen]; omega)))
  rw [hsplit, List.getElem?_append_left (List.getElem?_eq_some_iff.1 hv).1]
  exact hv
theorem yfv (g n c i : Nat) (hi : i < n) (hc : n ≤ c) : z0f 67 (.slice (some ⟨g, 0, none⟩) n c) (.int .i64 (i : Int)) = some (.slice (some ⟨g, i * 67, none⟩) (n - i) (c - i)) := by
 show (if 0 ≤ (i : Int) ∧ (i : Int) ≤ (n : Int) then some (sliced (some ⟨g, 0, none⟩) (i : Int).toNat n c 67) else none) = _
 rw [if_pos (by omega), Int.toNat_natCast]
 unfold sliced
 rw [if_neg (by omega)]
 simp [Addr.add_mid]
theorem yla (g n c i : Nat) (hi : i ≤ n) (hc : n ≤ c) (h0 : 0 < c) : z0g 67 (.slice (some ⟨g, 0, none⟩) n c) (.int .i64 (i : Int)) = some (.slice (some ⟨g, 0, none⟩) i c) := by
 show (if 0 ≤ (i : Int) ∧ (i : Int) ≤ (c : Int) then some (sliced (some ⟨g, 0, none⟩) 0 (i : Int).toNat c 67) else none) = _
 rw [if_pos (by omega), Int.toNat_natCast]
 unfold sliced
 rw [if_neg (by omega)]
 simp [Addr.add]
@[local go_sem ↓ high] theorem yqo (ρ : Operand → Value) (dst : Option Tmp) (x hi : Operand) (ty : TypeId) (pos : String) (after : Array Edge) (guard : Option (Nat × Bool)) (w : World) :
  (execOp ρ { dst, op := .slice 31 x none (some hi) none, type := ty, pos, after, guard }).run Tryz.prog w = zg7 (z0g 67 (ρ x) (ρ hi)) w (zbn Tryz.prog ρ { dst, op := .slice 31 x none (some hi) none, type := ty, pos, after, guard } w) :=
 zts Tryz.underlying31 Tryz.sizeOf118 ρ dst x hi ty pos after guard w
structure DlK (p : Lk → Bool) (f a : List Lk) (n i j : Nat) : Prop where
 len : a.length = n
 lt : i < j
 le : j ≤ n
 lo : a.take i = (f.take j).filter fun c => !p c
 hi : ∀ x, j ≤ x → x < n → lkAt a x = lkAt f x
section
variable {p : Lk → Bool} {f a : List Lk} {n i j : Nat}
theorem zng (hl : f.length = n) (hj : j < n) : f.take (j + 1) = f.take j ++ [lkAt f j] := by
 rw [List.take_add_one, List.getElem?_eq_getElem (by omega), zcy (by omega)]; rfl
theorem DlK.skip (h : DlK p f a n i j) (hl : f.length = n) (hj : j < n) (hk : p (lkAt f j) = true) : DlK p f a n i (j + 1) := by
 refine ⟨h.len, Nat.lt_succ_of_lt h.lt, hj, ?_, fun x hx hn => h.hi x (by omega) hn⟩
 rw [h.lo, zng hl hj, List.filter_append]
 have : List.filter (fun c => !p c) [lkAt f j] = [] := by rw [List.filter_cons, hk]; rfl
 rw [this, List.append_nil]
theorem DlK.stay (h : DlK p f a n i j) (hl : f.length = n) (hj : j < n) (hk : p (lkAt f j) = false) : DlK p f (a.set i (lkAt f j)) n (i + 1) (j + 1) := by
 have hlt := h.lt
 have hlen := h.len
 refine ⟨by rw [List.length_set]; exact hlen, by omega, hj, ?_, fun x hx hn => ?_⟩
 ·
  rw [zng hl hj, List.filter_append, ← h.lo]
  have : List.filter (fun c => !p c) [lkAt f j] = [lkAt f j] := by rw [List.filter_cons, hk]; rfl
  rw [this, List.take_add_one, List.getElem?_set_self (by omega), List.take_set, List.set_eq_of_length_le (by rw [List.length_take]; omega)]
  rfl
 ·
  have := h.hi x (by omega) hn
  unfold lkAt at this ⊢
  rw [List.getD_eq_getElem?_getD, List.getElem?_set_ne (by omega), ← List.getD_eq_getElem?_getD]
  exact this
theorem DlK.start (hl : f.length = n) (hi : i < n) (h : ((f.take i).filter fun c => !p c) = f.take i) (hk : p (lkAt f i) = true) : DlK p f f n i (i + 1) := by
 refine ⟨hl, Nat.lt_succ_self i, hi, ?_, fun _ _ _ => rfl⟩
 rw [zng hl hi, List.filter_append, h]
 have : List.filter (fun c => !p c) [lkAt f i] = [] := by rw [List.filter_cons, hk]; rfl
 rw [this, List.append_nil]
end
def DelK (p : Lk → Bool) (f : List Lk) (v0 : Value) (w : World) (e : Ending) (w' : World) : Prop := ∃ v, e = .returned v ∧ SlE Elk w' v (f.filter fun c => !p c) ∧ (∀ b, v.ownBlock = some b → v0.ownBlock = some b) ∧ w.grownBy w' v0.ownBlock
theorem ypj (cf : Nat) (lb : Array Value) (q : Lk → Bool) (eg : ∀ args w, (callFunc cf args).run Tryz.prog w = .ok (.enter cf args) w) (B g n c : Nat) (f : List Lk) (w : World) (h : OwnE Elk w B (.slice (some ⟨g, 0, none⟩) n c) f) (hl : f.length = n) (hn : n ≤ 2000)
  (hq : ∀ (c : Lk) (W : World), w.grownBy W (some g) → Calls Tryz.prog cf (#[.agg (lk c)] ++ lb) W fun e w' => e = .returned (.bool (q c)) ∧ Below W.heap.size W w') :
  Calls Tryz.prog 168 #[.slice (some ⟨g, 0, none⟩) n c, .func (.func cf) #[] lb] w (DelK q f (.slice (some ⟨g, 0, none⟩) n c) w) := by
 have HP := Lib.hid hq
 have HI := Lib.hid (yjj cf lb q eg (some ⟨g, 0, none⟩) n c f w (zat h) hl hn fun c W b => hq c W (zeq b))
 have HO := Lib.hid h
 have HL := Lib.hid hl
 have HN := Lib.hid hn
 have HCp : Hid (n ≤ c) := by
  obtain ⟨_, _, e, hh⟩ := zar (zat h)
  injection e with _ e2 e3
  show n ≤ c
  omega
 have HGs : Hid (g < w.heap.size) := (zbi h (b := g) rfl).2
 clear h hl hn hq
 go_enter Tryz.func168, Tryz.ntmps168
 go_wp2_with fail
 refine HI.out.mono ?_
 rintro e w1 ⟨g1, ⟨rfl, hf⟩ | ⟨k, rfl, hk, hd, hf⟩⟩
 ·
  have HF := Lib.hid hf
  have G1 : Hid (w.grownBy w1 (some g)) := zeq g1
  replace HO := Lib.hid (zam g1 HO.out)
  clear hf g1 HI
  go_wp2_with fail
  go_ret
  exact ⟨_, rfl, by rw [HF.out]; exact zat HO.out, fun _ e => e, G1.out⟩
 ·
  have G1 : Hid (w.grownBy w1 (some g)) := zeq g1
  replace HO := Lib.hid (zam g1 HO.out)
  have D0 : Hid (DlK q f f n k (k + 1)) := DlK.start HL.out (by rw [← HL.out]; exact hk) hf hd
  have HK : Hid (k < n) := by show k < n; rw [← HL.out]; exact hk
  have e1 : ((k : Int) == -1) = false := beq_eq_false_iff_ne.2 (by omega)
  have u0 : (k : Int) + 1 < 10000 := by have := HK.out; have := HN.out; omega
  clear hf hd hk g1 HI
  go_wp2_with fail
  go_loopw [5, 6] (fun a b wr => ∃ (i j : Nat) (l : List Lk), a = .int .i64 (i : Int) ∧ b = .int .i64 (j : Int) ∧ DlK q f l n i j ∧ OwnE Elk wr B (.slice (some ⟨g, 0, none⟩) n c) l ∧ w.grownBy wr (some g)) (fun _ b _ => n - (intOf b).toNat)
  case atStart => exact ⟨k, k + 1, f, rfl, by go_num, D0.out, HO.out, G1.out⟩
  case round =>
   obtain ⟨i, j, l, rfl, rfl, hd, ho, hg⟩ := hrel
   have D := Lib.hid hd
   replace HO := Lib.hid ho
   replace G1 := Lib.hid hg
   clear hd ho hg D0 u0 e1
   by_cases hlt : j < n
   ·
    have i0 : (0 : Int) ≤ (j : Int) := by omega
    have i1 : (j : Int) < (n : Int) := by omega
    have d0 : decide ((j : Int) < (n : Int)) = true := decide_eq_true i1
    have d0' : decide (j < n) = true := decide_eq_true hlt
    have i2 : (0 : Int) ≤ (i : Int) := by omega
    have i3 : (i : Int) < (n : Int) := by have := D.out.lt; omega
    have u1 : (j : Int) + 1 < 10000 := by have := HN.out; omega
    have u2 : (i : Int) + 1 < 10000 := by have := D.out.lt; have := HN.out; omega
    have HLT := Lib.hid hlt
    obtain ⟨_, o1, e1, _, x1⟩ := zkj (zat HO.out) (by rw [D.out.len]; omega)
    injection e1 with e1
    injection e1 with e1 e2
    subst e1 e2
    have y1 := zqg x1 (i := j) (by rw [D.out.len]; exact hlt)
    rw [D.out.hi j (Nat.le_refl _) hlt, Nat.zero_add] at y1
    have HSk : Hid (q (lkAt f j) = true → DlK q f l n i (j + 1)) := D.out.skip HL.out hlt
    have HSy : Hid (q (lkAt f j) = false → DlK q f (l.set i (lkAt f j)) n (i + 1) (j + 1)) := D.out.stay HL.out hlt
    have HQ := Lib.hid (HP.out (lkAt f j))
    obtain ⟨r, hr⟩ : ∃ r, r = q (lkAt f j) := ⟨_, rfl⟩
    rw [← hr] at HSk HSy HQ
    obtain ⟨C, hC⟩ : ∃ C, C = lkAt f j := ⟨_, rfl⟩
    rw [← hC] at y1 HQ HSy
    clear x1 hlt hr hC
    go_upto_region 8 with fail
    obtain ⟨V, hV⟩ : ∃ V, V = wr.alloc (.cells (lk C) 118) := ⟨_, rfl⟩
    rw [← hV]
    have g5 : Below wr.heap.size wr V := by rw [hV]; exact below1
    have X5 : Hid (V.heap[wr.heap.size]? = some (.cells (lk C) 118 (0, 0))) := by show _ = _; rw [hV]; exact heap_alloc_last wr _
    replace HO := Lib.hid (zam g5 HO.out)
    replace G1 : Hid (w.grownBy V (some g)) := zhf G1.out g5
    obtain ⟨Q, hQ⟩ : ∃ Q, Q = wr.heap.size := ⟨_, rfl⟩
    rw [← hQ] at X5 ⊢
    clear hV y1 hQ g5
    have z2 := zag X5.out (zhk C)
    go_wp2_with fail
    refine (HQ.out V G1.out).mono ?_
    rintro e V1 ⟨rfl, gg⟩
    replace HO := Lib.hid (zam gg HO.out)
    replace G1 : Hid (w.grownBy V1 (some g)) := zhf G1.out gg
    replace X5 := Lib.hid (zab gg X5.out)
    clear gg z2
    cases r
    ·
     have z2 := zag X5.out (zhk C)
     have z3 := zqz HO.out D.out.len (i := i) (by have := D.out.lt; have := HLT.out; omega)
     have z3' : wrA V1 (.pointer (some ⟨g, i * 67, none⟩)) 67 = true := by rw [show i * 67 = 0 + i * Elk.n from (Nat.zero_add _).symm]; exact z3
     clear z3
     go_wp2_with fail
     go_roundw
     case rel => exact ⟨i + 1, j + 1, l.set i C, by go_num, by go_num, (by have := HSy.out; simpa using this), zvr HO.out D.out.len (by have := D.out.lt; have := HLT.out; omega) C (zqf C), zxq G1.out⟩
     case measure => simp [intOf]; have := HLT.out; omega
    ·
     go_wp2_with fail
     go_roundw
     case rel => exact ⟨i, j + 1, l, rfl, by go_num, (by have := HSk.out; simpa using this), HO.out, G1.out⟩
     case measure => simp [intOf]; have := HLT.out; omega
   ·
    have HJ : Hid (j = n) := by show j = n; have := D.out.le; omega
    have d0 : decide ((j : Int) < (n : Int)) = false := decide_eq_false (by omega)
    have d0' : decide (j < n) = false := decide_eq_false hlt
    have HIl : Hid (i < n) := by show i < n; have := D.out.lt; have := D.out.le; omega
    have HF : Hid (l.take i = f.filter fun c => !q c) := by
     show _ = _
     rw [D.out.lo, HJ.out, List.take_of_length_le (by rw [HL.out]; exact Nat.le_refl _)]
    have c1 := yfv g n c i HIl.out HCp.out
    have c2 := yla g n c i (Nat.le_of_lt HIl.out) HCp.out (by have := HIl.out; have := HCp.out; omega)
    obtain ⟨vs, hvs, hcl⟩ := z7m wr g i (n - i) (c - i) (by have := HIl.out; omega) (fun x hx => by
     have h1 := z6z HO.out D.out.len (i * 67 + x) (by have := HIl.out; have e : (n - i) * 67 = n * 67 - i * 67 := Nat.sub_mul _ _ _; rw [e] at hx; omega)
     rw [Nat.zero_add] at h1
     exact h1)
    have S := Lib.hid (z0d (vs := vs) HO.out D.out.len (Nat.le_of_lt HIl.out))
    have G2 : Hid (w.grownBy (wr.setCells g (i * 67) vs) (some g)) := zjs G1.out vs (i * 67)
    generalize wr.setCells g (i * 67) vs = wc at *
    clear hlt hvs
    go_wp2_with fail
    go_ret
    exact ⟨_, rfl, by rw [← HF.out]; exact S.out, fun _ e => e, G2.out⟩
theorem delK (cf : Nat) (lb : Array Value) (q : Lk → Bool) (eg : ∀ args w, (callFunc cf args).run Tryz.prog w = .ok (.enter cf args) w) (B : Nat) (v : Value) (f : List Lk) (w : World) (h : OwnE Elk w B v f) (hn : f.length ≤ 2000)
  (hq : ∀ (c : Lk) (W : World), w.grownBy W v.ownBlock → Calls Tryz.prog cf (#[.agg (lk c)] ++ lb) W fun e w' => e = .returned (.bool (q c)) ∧ Below W.heap.size W w') :
  Calls Tryz.prog 168 #[v, .func (.func cf) #[] lb] w (DelK q f v w) := by
 rcases h.2 with ⟨rfl, h0⟩ | ⟨g, cap, cur, rfl, _⟩
 ·
  have e : f = [] := List.length_eq_zero_iff.1 h0
  subst e
  have HI := Lib.hid (yjj cf lb q eg none 0 0 [] w (zbr _ _ _ _) rfl (by omega) fun c W b => hq c W (zeq b))
  clear h h0 hn hq
  go_enter Tryz.func168, Tryz.ntmps168
  go_wp2_with fail
  refine HI.out.mono ?_
  rintro e w1 ⟨g1, ⟨rfl, hf⟩ | ⟨k, rfl, hk, hd, hf⟩⟩
  ·
   have G1 : Hid (w.grownBy w1 none) := zeq g1
   clear hf g1 HI
   go_wp2_with fail
   go_ret
   exact ⟨_, rfl, zbr _ _ _ _, fun _ e => e, G1.out⟩
  ·
   exact absurd hk (Nat.not_lt_zero _)
 ·
  exact ypj cf lb q eg B g _ cap f w h rfl hn hq
end
section
open Go.Maps
open Go.RowKit Go.Maps
theorem keyed_int : Keyed Tryz.prog 3 := int_keyed Tryz.underlying3
def iK (a : Int) : Lit := .int .i64 a
def iV (a : Int) : DataW Unit := .lit (.int .i64 a)
theorem zwr {a : Int} (h : -100000 ≤ a ∧ a ≤ 100000) : (Lit.int .i64 a).wf = true := WalkArith.wf_i64 (by omega)
theorem zin {a : Int} (h : -100000 ≤ a ∧ a ≤ 100000) : keyOf Tryz.prog 3 (.int .i64 a) = some (iK a) := keyOf_int_mk Tryz.underlying3 (zwr h)
theorem zp6 {a : Int} (h : -100000 ≤ a ∧ a ≤ 100000) : WideAt.IsKeyLit (iK a) := keyed_int.key (zin h)
theorem ypz {a b : Int} (h : a ≠ b) : iK a ≠ iK b := fun e => by unfold iK at e; injection e with _ e; exact h e
def movV (l : List Nd) (i k : Nat) : Int := if zbw l i k = true then (zbo l i k : Int) else -1
def movD (l : List Nd) (i : Nat) : Nat → DataW Unit
 | 0 => (DataW.map []).put (iK (-1)) (iV (-1))
 | j + 1 => (movD l i j).put (iK (j : Int)) (iV (movV l i j))
def zjm (l : List Nd) (i j : Nat) : List Nd := ((List.range j).filter (zbw l i)).map (cutN l i)
section
variable {l : List Nd} {i : Nat}
theorem z3z (l : List Nd) (i : Nat) : ∀ j, IsMap (movD l i j)
 | 0 => isMap_empty.put _ _
 | j + 1 => (z3z l i j).put _ _
theorem zyh (l : List Nd) (i : Nat) (z : DataW Unit) : ∀ j, (movD l i j).atKey (iK (-1)) z = iV (-1)
 | 0 => atKey_put_same isMap_empty (zp6 (by omega)) _ _
 | j + 1 => by
  unfold movD
  rw [atKey_put_other (ypz (by omega))]
  exact zyh l i z j
theorem ybq (l : List Nd) (i : Nat) (z : DataW Unit) {k : Nat} : ∀ j, k < j → j ≤ 1000 → (movD l i j).atKey (iK (k : Int)) z = iV (movV l i k)
 | 0, h, _ => absurd h (Nat.not_lt_zero _)
 | j + 1, h, hj => by
  unfold movD
  by_cases e : k = j
  ·
   subst e
   exact atKey_put_same (z3z l i k) (zp6 (by omega)) _ _
  ·
   rw [atKey_put_other (ypz (by omega))]
   exact ybq l i z j (by omega) (by omega)
theorem z9p {j : Nat} (h : zbw l i j = true) : zjm l i (j + 1) = zjm l i j ++ [cutN l i j] := by
 unfold zjm
 rw [List.range_succ, List.filter_append, List.map_append]
 simp [h]
theorem yfo {j : Nat} (h : zbw l i j = false) : zjm l i (j + 1) = zjm l i j := by
 unfold zjm
 rw [List.range_succ, List.filter_append, List.map_append]
 simp [h]
theorem z9o (l : List Nd) (i j : Nat) : (zjm l i j).length = zbo l i j := by
 unfold zjm zbo zgp
 rw [List.length_map]
theorem yfn (l : List Nd) (i j : Nat) : (zjm l i j).length ≤ j := by
 unfold zjm
 rw [List.length_map]
 have := List.length_filter_le (zbw l i) (List.range j)
 rwa [List.length_range] at this
theorem z9n (l : List Nd) (i : Nat) : zjm l i l.length = cutL l i := rfl
theorem z6p (h : MayT l) (hi : i < l.length) {k : Nat} (hk : zbw l i k = true) (z : DataW Unit) (hn : l.length ≤ 1000) : (movD l i (k + 1)).atKey (iK (nd l k).parent) z = iV (cutN l i k).parent ∧ -100000 ≤ (nd l k).parent ∧ (nd l k).parent ≤ 100000 := by
 have hkl := (zaz.1 hk).1
 by_cases h0 : k = 0
 ·
  subst h0
  have hz : i = 0 := by have := zke h hk; omega
  subst hz
  rw [h.first]
  exact ⟨by rw [zyh]; rfl, by omega, by omega⟩
 ·
  obtain ⟨hp, hu, _⟩ := h.par (Nat.pos_of_ne_zero h0) hkl
  rw [hp]
  refine ⟨?_, by omega, by omega⟩
  rw [ybq l i z (k + 1) (by omega) (by omega)]
  by_cases e : k = i
  ·
   subst e
   have hno : zbw l k (up l k) = false := by
    rw [← Bool.not_eq_true]
    intro hh
    have := zke h hh
    omega
   unfold movV cutN
   rw [hno, if_neg Bool.false_ne_true, if_pos rfl]
  ·
   obtain ⟨_, hku, _⟩ := zp7 h hk e
   unfold movV cutN
   rw [hku, if_pos rfl, if_neg e]
end
end
end Go.Proofs.YtkalofboioffiaaGreat
