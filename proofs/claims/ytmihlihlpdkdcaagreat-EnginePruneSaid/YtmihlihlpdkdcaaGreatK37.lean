import Derived.Test.YtmihlihlpdkdcaaGreatK12
import Derived.Test.YtmihlihlpdkdcaaGreatK17
import Derived.Test.YtmihlihlpdkdcaaGreatK24
import Derived.Test.YtmihlihlpdkdcaaGreatK23
import Derived.Test.YtmihlihlpdkdcaaGreatK25
import Derived.Laws.IdiomCopy
import Derived.Lib.EndianMore
import Derived.Deep.Upon
import Derived.Deep.Cut
import Derived.Deep.CutRange
import Derived.Deep.RegionLaw
import Derived.Test.YtmihlihlpdkdcaaGreatQ06
import Derived.Test.YtmihlihlpdkdcaaGreatQ03
import Derived.Maps.OwnSet
import Derived.Test.YtmihlihlpdkdcaaGreatK32
import Derived.Test.YtmihlihlpdkdcaaGreatK20
import Derived.Test.YtmihlihlpdkdcaaGreatK13
import Derived.WalkMore
namespace Go.Proofs.YtmihlihlpdkdcaaGreat
open Go.RowKit
set_option maxRecDepth 200000
set_option maxHeartbeats 64000000
section
open Go.RowKit
def IdxK (p : Lk → Bool) (l : List Lk) (w : World) (e : Ending) (w' : World) : Prop :=
 Below w.heap.size w w' ∧ ((e = .returned (.int .i64 (-1)) ∧ (l.filter fun c => !p c) = l) ∨ ∃ k : Nat, e = .returned (.int .i64 (k : Int)) ∧ k < l.length ∧ p (lkAt l k) = true ∧ ((l.take k).filter fun c => !p c) = l.take k)
theorem ybv {p : Lk → Bool} {l : List Lk} {j : Nat} (hj : j < l.length) (h : ((l.take j).filter fun c => !p c) = l.take j) (hk : p (lkAt l j) = false) : ((l.take (j + 1)).filter fun c => !p c) = l.take (j + 1) := by
 rw [List.take_add_one, List.getElem?_eq_getElem hj, List.filter_append, h]
 congr 1
 rw [zcm hj] at hk
 show List.filter _ [_] = [_]
 rw [List.filter_cons, hk]
 rfl
theorem yo6 (cf : Nat) (lb : Array Value) (q : Lk → Bool) (eg : ∀ args w, (callFunc cf args).run Tryz.prog w = .ok (.enter cf args) w) (p : Option Addr) (n cp : Nat) (l : List Lk) (w : World) (h : SlE Elk w (.slice p n cp) l) (hl : l.length = n) (hn : n ≤ 2000)
  (hq : ∀ (c : Lk) (W : World), Below w.heap.size w W → Calls Tryz.prog cf (#[.agg (lk c)] ++ lb) W fun e w' => e = .returned (.bool (q c)) ∧ Below W.heap.size W w') :
  Calls Tryz.prog 142 #[.slice p n cp, .func (.func cf) #[] lb] w (IdxK q l w) := by
 have HP := Lib.hid hq
 have K := Lib.hid h
 have HL := Lib.hid hl
 have HN := Lib.hid hn
 clear h hl hn hq
 go_enter Tryz.func142, Tryz.ntmps142
 go_wp2_with fail
 go_loopw [8] (fun i wr => ∃ j : Nat, j ≤ n ∧ i = .int .i64 (j : Int) ∧ ((l.take j).filter fun c => !q c) = l.take j ∧ Below w.heap.size w wr) (fun i _ => n - (intOf i).toNat)
 case atStart => exact ⟨0, Nat.zero_le _, rfl, rfl, Below.refl _ _⟩
 case round =>
  obtain ⟨j, hj, rfl, hf, hg⟩ := hrel
  have HF := Lib.hid hf
  have HG := Lib.hid hg
  clear hf hg
  by_cases hlt : j < n
  ·
   have i0 : (0 : Int) ≤ (j : Int) := by omega
   have i1 : (j : Int) < (n : Int) := by omega
   have d0 : decide ((j : Int) < (n : Int)) = true := decide_eq_true i1
   have d0' : decide (j < n) = true := decide_eq_true hlt
   have u1 : (j : Int) + 1 < 10000 := by have := HN.out; omega
   have HLT := Lib.hid hlt
   obtain ⟨b1, o1, rfl, q1, x1⟩ := zjm K.out (by have := HL.out; omega)
   have y1 := Go.Proofs.YtmihlihlpdkdcaaGreat.keep HG.out (zob x1 (i := j) (by have := HL.out; omega))
   have HTk : Hid (q (lkAt l j) = false → ((l.take (j + 1)).filter fun c => !q c) = l.take (j + 1)) := ybv (by rw [HL.out]; exact hlt) HF.out
   have HQ := Lib.hid (HP.out (lkAt l j) wr HG.out)
   obtain ⟨r, hr⟩ : ∃ r, r = q (lkAt l j) := ⟨_, rfl⟩
   rw [← hr] at HTk HQ
   have HR := Lib.hid hr
   generalize lkAt l j = C at y1 HQ
   clear x1 q1 hlt hj hr
   go_wp2_with fail
   refine HQ.out.mono ?_
   rintro e w1 ⟨rfl, g⟩
   have G1 := Lib.hid (zad HG.out g)
   clear g y1
   cases r
   ·
    go_wp2_with fail
    go_roundw
    case rel => exact ⟨j + 1, HLT.out, by go_num, (by have := HTk.out; simpa using this), G1.out⟩
    case measure => simp [intOf]; have := HLT.out; omega
   ·
    go_wp2_with fail
    go_ret
    exact ⟨G1.out, .inr ⟨j, rfl, by rw [HL.out]; exact HLT.out, HR.out.symm, HF.out⟩⟩
  ·
   obtain rfl : j = n := by omega
   have d0 : decide ((j : Int) < (j : Int)) = false := decide_eq_false (Int.lt_irrefl _)
   have d0' : decide (j < j) = false := decide_eq_false (Nat.lt_irrefl _)
   have HE : Hid ((l.filter fun c => !q c) = l) := by
    have := HF.out
    rwa [List.take_of_length_le (by rw [HL.out]; exact Nat.le_refl _)] at this
   clear hlt
   go_wp2_with fail
   go_ret
   exact ⟨HG.out, .inl ⟨rfl, HE.out⟩⟩
theorem yam {w : World} {base g n c : Nat} {l : List Lk} (h : OwnE Elk w base (.slice (some ⟨g, 0, none⟩) n c) l) (hl : l.length = n) : w.there g 0 (n * 67) := fun x hx => by
 have hi : x / 67 < n := by omega
 have := zds.1 (zsa h hl hi) (x % 67) (Nat.mod_lt _ (by decide))
 have e : 0 + x / 67 * Elk.n + x % 67 = 0 + x := by show 0 + x / 67 * 67 + x % 67 = 0 + x; omega
 rw [e] at this
 exact this
theorem z87 (w : World) (g i m c : Nat) (hm : 0 < m) (h : w.there g (i * 67) (m * 67)) : ∃ vs, vs.length = m * 67 ∧ ∀ ty, (Builtin.clear_ #[34] ty #[.slice (some ⟨g, i * 67, none⟩) m c]).run Tryz.prog w = .ok (.tuple #[]) (w.setCells g (i * 67) vs) := by
 have hN : (lk zlk).size = 67 := zio zlk
 have := zlh (P := Tryz.prog) (z := lk zlk) Tryz.underlying34 zzc (fun v hv => Elk.one zlk v (by show v ∈ lkL zlk; rw [← zse]; exact hv)) (by rw [hN]; decide) w g (i * 67) m c hm (by rw [hN]; exact h)
 rwa [hN] at this
theorem z33 {w : World} {base g n c i : Nat} {l : List Lk} {vs : List Value} (h : OwnE Elk w base (.slice (some ⟨g, 0, none⟩) n c) l) (hl : l.length = n) (hi : i ≤ n) : SlE Elk (w.setCells g (i * 67) vs) (.slice (some ⟨g, 0, none⟩) i c) (l.take i) := by
 have hb := (zbm h (b := g) rfl)
 have hB := Lib.below_setCells_w (B := base) hb.1 vs (i * 67) w
 obtain ⟨p, c', e, hc, hh⟩ := zak h
 injection e with e1 e2 e3
 subst e3
 refine ⟨_, c, by rw [List.length_take, hl, Nat.min_eq_left hi], by rw [List.length_take]; omega, ?_⟩
 rcases hh with rfl | ⟨b, off, e4, hlt, hx⟩
 ·
  left; exact List.take_nil
 ·
  rw [← e1] at e4
  injection e4 with e4
  injection e4 with e4 e5
  subst e4 e5
  refine .inr ⟨g, 0, rfl, Nat.lt_of_lt_of_le hlt hB.size, ?_⟩
  have hsplit : zan Elk l = zan Elk (l.take i) ++ zan Elk (l.drop i) := by rw [← zdz, List.take_append_drop]
  have hlen : (zan Elk (l.take i)).length = i * 67 := by rw [zbd, List.length_take, Nat.min_eq_left (by omega)]; rfl
  refine World.rangeAt_setCells_apart (fun j v hv => hx j v ?_) g (i * 67) vs (.inr (.inl (by rw [hlen]; omega)))
  rw [hsplit, List.getElem?_append_left (List.getElem?_eq_some_iff.1 hv).1]
  exact hv
theorem yi3 (g n c i : Nat) (hi : i < n) (hc : n ≤ c) : zze 67 (.slice (some ⟨g, 0, none⟩) n c) (.int .i64 (i : Int)) = some (.slice (some ⟨g, i * 67, none⟩) (n - i) (c - i)) := by
 show (if 0 ≤ (i : Int) ∧ (i : Int) ≤ (n : Int) then some (sliced (some ⟨g, 0, none⟩) (i : Int).toNat n c 67) else none) = _
 rw [if_pos (by omega), Int.toNat_natCast]
 unfold sliced
 rw [if_neg (by omega)]
 simp [Addr.add_mid]
theorem yrw (g n c i : Nat) (hi : i ≤ n) (hc : n ≤ c) (h0 : 0 < c) : z5s 67 (.slice (some ⟨g, 0, none⟩) n c) (.int .i64 (i : Int)) = some (.slice (some ⟨g, 0, none⟩) i c) := by
 show (if 0 ≤ (i : Int) ∧ (i : Int) ≤ (c : Int) then some (sliced (some ⟨g, 0, none⟩) 0 (i : Int).toNat c 67) else none) = _
 rw [if_pos (by omega), Int.toNat_natCast]
 unfold sliced
 rw [if_neg (by omega)]
 simp [Addr.add]
@[local go_sem ↓] theorem yud (ρ : Operand → Value) (dst : Option Tmp) (x hi : Operand) (ty : TypeId) (pos : String) (after : Array Edge) (guard : Option (Nat × Bool)) (w : World) :
  (execOp ρ { dst, op := .slice 34 x none (some hi) none, type := ty, pos, after, guard }).run Tryz.prog w = zhu (z5s 67 (ρ x) (ρ hi)) w (zbe Tryz.prog ρ { dst, op := .slice 34 x none (some hi) none, type := ty, pos, after, guard } w) :=
 zwg Tryz.underlying34 Tryz.sizeOf110 ρ dst x hi ty pos after guard w
structure DlK (p : Lk → Bool) (f a : List Lk) (n i j : Nat) : Prop where
 len : a.length = n
 lt : i < j
 le : j ≤ n
 lo : a.take i = (f.take j).filter fun c => !p c
 hi : ∀ x, j ≤ x → x < n → lkAt a x = lkAt f x
section
variable {p : Lk → Bool} {f a : List Lk} {n i j : Nat}
theorem zok (hl : f.length = n) (hj : j < n) : f.take (j + 1) = f.take j ++ [lkAt f j] := by
 rw [List.take_add_one, List.getElem?_eq_getElem (by omega), zcm (by omega)]; rfl
theorem DlK.skip (h : DlK p f a n i j) (hl : f.length = n) (hj : j < n) (hk : p (lkAt f j) = true) : DlK p f a n i (j + 1) := by
 refine ⟨h.len, Nat.lt_succ_of_lt h.lt, hj, ?_, fun x hx hn => h.hi x (by omega) hn⟩
 rw [h.lo, zok hl hj, List.filter_append]
 have : List.filter (fun c => !p c) [lkAt f j] = [] := by rw [List.filter_cons, hk]; rfl
 rw [this, List.append_nil]
theorem DlK.stay (h : DlK p f a n i j) (hl : f.length = n) (hj : j < n) (hk : p (lkAt f j) = false) : DlK p f (a.set i (lkAt f j)) n (i + 1) (j + 1) := by
 have hlt := h.lt
 have hlen := h.len
 refine ⟨by rw [List.length_set]; exact hlen, by omega, hj, ?_, fun x hx hn => ?_⟩
 ·
  rw [zok hl hj, List.filter_append, ← h.lo]
  have : List.filter (fun c => !p c) [lkAt f j] = [lkAt f j] := by rw [List.filter_cons, hk]; rfl
  rw [this, List.take_add_one, List.getElem?_set_self (by omega), List.take_set, List.set_eq_of_length_le (by rw [List.length_take]; omega)]
  rfl
 ·
  have := h.hi x (by omega) hn
  unfold lkAt at this ⊢
  rw [List.getD_eq_getElem?_getD, List.getElem?_set_ne (by omega), ← List.getD_eq_getElem?_getD]
  exact this
theorem DlK.start (hl : f.length = n) (hi : i < n) (h : ((f.take i).filter fun c => !p c) = f.take i) (hk : p (lkAt f i) = true) : DlK p f f n i (i + 1) := by
 refine ⟨hl, Nat.lt_succ_self i, hi, ?_, fun _ _ _ => rfl⟩
 rw [zok hl hi, List.filter_append, h]
 have : List.filter (fun c => !p c) [lkAt f i] = [] := by rw [List.filter_cons, hk]; rfl
 rw [this, List.append_nil]
end
def DelK (p : Lk → Bool) (f : List Lk) (v0 : Value) (w : World) (e : Ending) (w' : World) : Prop := ∃ v, e = .returned v ∧ SlE Elk w' v (f.filter fun c => !p c) ∧ (∀ b, v.ownBlock = some b → v0.ownBlock = some b) ∧ w.grownBy w' v0.ownBlock
theorem yun (cf : Nat) (lb : Array Value) (q : Lk → Bool) (eg : ∀ args w, (callFunc cf args).run Tryz.prog w = .ok (.enter cf args) w) (B g n c : Nat) (f : List Lk) (w : World) (h : OwnE Elk w B (.slice (some ⟨g, 0, none⟩) n c) f) (hl : f.length = n) (hn : n ≤ 2000)
  (hq : ∀ (c : Lk) (W : World), w.grownBy W (some g) → Calls Tryz.prog cf (#[.agg (lk c)] ++ lb) W fun e w' => e = .returned (.bool (q c)) ∧ Below W.heap.size W w') :
  Calls Tryz.prog 117 #[.slice (some ⟨g, 0, none⟩) n c, .func (.func cf) #[] lb] w (DelK q f (.slice (some ⟨g, 0, none⟩) n c) w) := by
 have HP := Lib.hid hq
 have HI := Lib.hid (yo6 cf lb q eg (some ⟨g, 0, none⟩) n c f w (zak h) hl hn fun c W b => hq c W (zfj b))
 have HO := Lib.hid h
 have HL := Lib.hid hl
 have HN := Lib.hid hn
 have HCp : Hid (n ≤ c) := by
  obtain ⟨_, _, e, hh⟩ := zaj (zak h)
  injection e with _ e2 e3
  show n ≤ c
  omega
 have HGs : Hid (g < w.heap.size) := (zbm h (b := g) rfl).2
 clear h hl hn hq
 go_enter Tryz.func117, Tryz.ntmps117
 go_wp2_with fail
 refine HI.out.mono ?_
 rintro e w1 ⟨g1, ⟨rfl, hf⟩ | ⟨k, rfl, hk, hd, hf⟩⟩
 ·
  have HF := Lib.hid hf
  have G1 : Hid (w.grownBy w1 (some g)) := zfj g1
  replace HO := Lib.hid (zah g1 HO.out)
  clear hf g1 HI
  go_wp2_with fail
  go_ret
  exact ⟨_, rfl, by rw [HF.out]; exact zak HO.out, fun _ e => e, G1.out⟩
 ·
  have G1 : Hid (w.grownBy w1 (some g)) := zfj g1
  replace HO := Lib.hid (zah g1 HO.out)
  have D0 : Hid (DlK q f f n k (k + 1)) := DlK.start HL.out (by rw [← HL.out]; exact hk) hf hd
  have HK : Hid (k < n) := by show k < n; rw [← HL.out]; exact hk
  have e1 : ((k : Int) == -1) = false := beq_eq_false_iff_ne.2 (by omega)
  have u0 : (k : Int) + 1 < 10000 := by have := HK.out; have := HN.out; omega
  clear hf hd hk g1 HI
  go_wp2_with fail
  go_loopw [5, 6] (fun a b wr => ∃ (i j : Nat) (l : List Lk), a = .int .i64 (i : Int) ∧ b = .int .i64 (j : Int) ∧ DlK q f l n i j ∧ OwnE Elk wr B (.slice (some ⟨g, 0, none⟩) n c) l ∧ w.grownBy wr (some g)) (fun _ b _ => n - (intOf b).toNat)
  case atStart => exact ⟨k, k + 1, f, rfl, by go_num, D0.out, HO.out, G1.out⟩
  case round =>
   obtain ⟨i, j, l, rfl, rfl, hd, ho, hg⟩ := hrel
   have D := Lib.hid hd
   replace HO := Lib.hid ho
   replace G1 := Lib.hid hg
   clear hd ho hg D0 u0 e1
   by_cases hlt : j < n
   ·
    have i0 : (0 : Int) ≤ (j : Int) := by omega
    have i1 : (j : Int) < (n : Int) := by omega
    have d0 : decide ((j : Int) < (n : Int)) = true := decide_eq_true i1
    have d0' : decide (j < n) = true := decide_eq_true hlt
    have i2 : (0 : Int) ≤ (i : Int) := by omega
    have i3 : (i : Int) < (n : Int) := by have := D.out.lt; omega
    have u1 : (j : Int) + 1 < 10000 := by have := HN.out; omega
    have u2 : (i : Int) + 1 < 10000 := by have := D.out.lt; have := HN.out; omega
    have HLT := Lib.hid hlt
    obtain ⟨_, o1, e1, _, x1⟩ := zjm (zak HO.out) (by rw [D.out.len]; omega)
    injection e1 with e1
    injection e1 with e1 e2
    subst e1 e2
    have y1 := zob x1 (i := j) (by rw [D.out.len]; exact hlt)
    rw [D.out.hi j (Nat.le_refl _) hlt, Nat.zero_add] at y1
    have HSk : Hid (q (lkAt f j) = true → DlK q f l n i (j + 1)) := D.out.skip HL.out hlt
    have HSy : Hid (q (lkAt f j) = false → DlK q f (l.set i (lkAt f j)) n (i + 1) (j + 1)) := D.out.stay HL.out hlt
    have HQ := Lib.hid (HP.out (lkAt f j))
    obtain ⟨r, hr⟩ : ∃ r, r = q (lkAt f j) := ⟨_, rfl⟩
    rw [← hr] at HSk HSy HQ
    obtain ⟨C, hC⟩ : ∃ C, C = lkAt f j := ⟨_, rfl⟩
    rw [← hC] at y1 HQ HSy
    clear x1 hlt hr hC
    go_upto_region 8 with fail
    obtain ⟨V, hV⟩ : ∃ V, V = wr.alloc (.cells (lk C) 110) := ⟨_, rfl⟩
    rw [← hV]
    have g5 : Below wr.heap.size wr V := by rw [hV]; exact below1
    have X5 : Hid (V.heap[wr.heap.size]? = some (.cells (lk C) 110 (0, 0))) := by show _ = _; rw [hV]; exact heap_alloc_last wr _
    replace HO := Lib.hid (zah g5 HO.out)
    replace G1 : Hid (w.grownBy V (some g)) := zi2 G1.out g5
    obtain ⟨Q, hQ⟩ : ∃ Q, Q = wr.heap.size := ⟨_, rfl⟩
    rw [← hQ] at X5 ⊢
    clear hV y1 hQ g5
    have z2 := zaf X5.out (zio C)
    go_wp2_with fail
    refine (HQ.out V G1.out).mono ?_
    rintro e V1 ⟨rfl, gg⟩
    replace HO := Lib.hid (zah gg HO.out)
    replace G1 : Hid (w.grownBy V1 (some g)) := zi2 G1.out gg
    replace X5 := Lib.hid (zab gg X5.out)
    clear gg z2
    cases r
    ·
     have z2 := zaf X5.out (zio C)
     have z3 := zsa HO.out D.out.len (i := i) (by have := D.out.lt; have := HLT.out; omega)
     have z3' : wrA V1 (.pointer (some ⟨g, i * 67, none⟩)) 67 = true := by rw [show i * 67 = 0 + i * Elk.n from (Nat.zero_add _).symm]; exact z3
     clear z3
     go_wp2_with fail
     go_roundw
     case rel => exact ⟨i + 1, j + 1, l.set i C, by go_num, by go_num, (by have := HSy.out; simpa using this), zxi HO.out D.out.len (by have := D.out.lt; have := HLT.out; omega) C (zse C), z19 G1.out⟩
     case measure => simp [intOf]; have := HLT.out; omega
    ·
     go_wp2_with fail
     go_roundw
     case rel => exact ⟨i, j + 1, l, rfl, by go_num, (by have := HSk.out; simpa using this), HO.out, G1.out⟩
     case measure => simp [intOf]; have := HLT.out; omega
   ·
    have HJ : Hid (j = n) := by show j = n; have := D.out.le; omega
    have d0 : decide ((j : Int) < (n : Int)) = false := decide_eq_false (by omega)
    have d0' : decide (j < n) = false := decide_eq_false hlt
    have HIl : Hid (i < n) := by show i < n; have := D.out.lt; have := D.out.le; omega
    have HF : Hid (l.take i = f.filter fun c => !q c) := by
     show _ = _
     rw [D.out.lo, HJ.out, List.take_of_length_le (by rw [HL.out]; exact Nat.le_refl _)]
    have c1 := yi3 g n c i HIl.out HCp.out
    have c2 := yrw g n c i (Nat.le_of_lt HIl.out) HCp.out (by have := HIl.out; have := HCp.out; omega)
    obtain ⟨vs, hvs, hcl⟩ := z87 wr g i (n - i) (c - i) (by have := HIl.out; omega) (fun x hx => by
     have h1 := yam HO.out D.out.len (i * 67 + x) (by have := HIl.out; have e : (n - i) * 67 = n * 67 - i * 67 := Nat.sub_mul _ _ _; rw [e] at hx; omega)
     rw [Nat.zero_add] at h1
     exact h1)
    have S := Lib.hid (z33 (vs := vs) HO.out D.out.len (Nat.le_of_lt HIl.out))
    have G2 : Hid (w.grownBy (wr.setCells g (i * 67) vs) (some g)) := zlc G1.out vs (i * 67)
    generalize wr.setCells g (i * 67) vs = wc at *
    clear hlt hvs
    go_wp2_with fail
    go_ret
    exact ⟨_, rfl, by rw [← HF.out]; exact S.out, fun _ e => e, G2.out⟩
theorem delK (cf : Nat) (lb : Array Value) (q : Lk → Bool) (eg : ∀ args w, (callFunc cf args).run Tryz.prog w = .ok (.enter cf args) w) (B : Nat) (v : Value) (f : List Lk) (w : World) (h : OwnE Elk w B v f) (hn : f.length ≤ 2000)
  (hq : ∀ (c : Lk) (W : World), w.grownBy W v.ownBlock → Calls Tryz.prog cf (#[.agg (lk c)] ++ lb) W fun e w' => e = .returned (.bool (q c)) ∧ Below W.heap.size W w') :
  Calls Tryz.prog 117 #[v, .func (.func cf) #[] lb] w (DelK q f v w) := by
 rcases h.2 with ⟨rfl, h0⟩ | ⟨g, cap, cur, rfl, _⟩
 ·
  have e : f = [] := List.length_eq_zero_iff.1 h0
  subst e
  have HI := Lib.hid (yo6 cf lb q eg none 0 0 [] w (zbt _ _ _ _) rfl (by omega) fun c W b => hq c W (zfj b))
  clear h h0 hn hq
  go_enter Tryz.func117, Tryz.ntmps117
  go_wp2_with fail
  refine HI.out.mono ?_
  rintro e w1 ⟨g1, ⟨rfl, hf⟩ | ⟨k, rfl, hk, hd, hf⟩⟩
  ·
   have G1 : Hid (w.grownBy w1 none) := zfj g1
   clear hf g1 HI
   go_wp2_with fail
   go_ret
   exact ⟨_, rfl, zbt _ _ _ _, fun _ e => e, G1.out⟩
  ·
   exact absurd hk (Nat.not_lt_zero _)
 ·
  exact yun cf lb q eg B g _ cap f w h rfl hn hq
end
section
open Go.Maps
open Go.RowKit Go.Maps
theorem keyed_int : Keyed Tryz.prog 3 := int_keyed Tryz.underlying3
def iK (a : Int) : Lit := .int .i64 a
def iV (a : Int) : DataW Unit := .lit (.int .i64 a)
theorem zzd {a : Int} (h : -100000 ≤ a ∧ a ≤ 100000) : (Lit.int .i64 a).wf = true := WalkArith.wf_i64 (by omega)
theorem zjs {a : Int} (h : -100000 ≤ a ∧ a ≤ 100000) : keyOf Tryz.prog 3 (.int .i64 a) = some (iK a) := keyOf_int_mk Tryz.underlying3 (zzd h)
theorem zs7 {a : Int} (h : -100000 ≤ a ∧ a ≤ 100000) : WideAt.IsKeyLit (iK a) := keyed_int.key (zjs h)
theorem yt0 {a b : Int} (h : a ≠ b) : iK a ≠ iK b := fun e => by unfold iK at e; injection e with _ e; exact h e
def movV (l : List Nd) (i k : Nat) : Int := if zcs l i k = true then (zcn l i k : Int) else -1
def movD (l : List Nd) (i : Nat) : Nat → DataW Unit
 | 0 => (DataW.map []).put (iK (-1)) (iV (-1))
 | j + 1 => (movD l i j).put (iK (j : Int)) (iV (movV l i j))
def zla (l : List Nd) (i j : Nat) : List Nd := ((List.range j).filter (zcs l i)).map (cutN l i)
section
variable {l : List Nd} {i : Nat}
theorem z6n (l : List Nd) (i : Nat) : ∀ j, IsMap (movD l i j)
 | 0 => isMap_empty.put _ _
 | j + 1 => (z6n l i j).put _ _
theorem z2s (l : List Nd) (i : Nat) (z : DataW Unit) : ∀ j, (movD l i j).atKey (iK (-1)) z = iV (-1)
 | 0 => atKey_put_same isMap_empty (zs7 (by omega)) _ _
 | j + 1 => by
  unfold movD
  rw [atKey_put_other (yt0 (by omega))]
  exact z2s l i z j
theorem yef (l : List Nd) (i : Nat) (z : DataW Unit) {k : Nat} : ∀ j, k < j → j ≤ 1000 → (movD l i j).atKey (iK (k : Int)) z = iV (movV l i k)
 | 0, h, _ => absurd h (Nat.not_lt_zero _)
 | j + 1, h, hj => by
  unfold movD
  by_cases e : k = j
  ·
   subst e
   exact atKey_put_same (z6n l i k) (zs7 (by omega)) _ _
  ·
   rw [atKey_put_other (yt0 (by omega))]
   exact yef l i z j (by omega) (by omega)
theorem ych {j : Nat} (h : zcs l i j = true) : zla l i (j + 1) = zla l i j ++ [cutN l i j] := by
 unfold zla
 rw [List.range_succ, List.filter_append, List.map_append]
 simp [h]
theorem ym5 {j : Nat} (h : zcs l i j = false) : zla l i (j + 1) = zla l i j := by
 unfold zla
 rw [List.range_succ, List.filter_append, List.map_append]
 simp [h]
theorem yc3 (l : List Nd) (i j : Nat) : (zla l i j).length = zcn l i j := by
 unfold zla zcn zhx
 rw [List.length_map]
theorem yi5 (l : List Nd) (i j : Nat) : (zla l i j).length ≤ j := by
 unfold zla
 rw [List.length_map]
 have := List.length_filter_le (zcs l i) (List.range j)
 rwa [List.length_range] at this
theorem yd6 (l : List Nd) (i : Nat) : zla l i l.length = cutL l i := rfl
theorem yaa (h : MayT l) (hi : i < l.length) {k : Nat} (hk : zcs l i k = true) (z : DataW Unit) (hn : l.length ≤ 1000) : (movD l i (k + 1)).atKey (iK (nd l k).parent) z = iV (cutN l i k).parent ∧ -100000 ≤ (nd l k).parent ∧ (nd l k).parent ≤ 100000 := by
 have hkl := (zbg.1 hk).1
 by_cases h0 : k = 0
 ·
  subst h0
  have hz : i = 0 := by have := zoj h hk; omega
  subst hz
  rw [h.first]
  exact ⟨by rw [z2s]; rfl, by omega, by omega⟩
 ·
  obtain ⟨hp, hu, _⟩ := h.par (Nat.pos_of_ne_zero h0) hkl
  rw [hp]
  refine ⟨?_, by omega, by omega⟩
  rw [yef l i z (k + 1) (by omega) (by omega)]
  by_cases e : k = i
  ·
   subst e
   have hno : zcs l k (up l k) = false := by
    rw [← Bool.not_eq_true]
    intro hh
    have := zoj h hh
    omega
   unfold movV cutN
   rw [hno, if_neg Bool.false_ne_true, if_pos rfl]
  ·
   obtain ⟨_, hku, _⟩ := zww h hk e
   unfold movV cutN
   rw [hku, if_pos rfl, if_neg e]
end
end
section
open Go.Shelf Go.Maps
attribute [local go_sem] Oper.semAt_some
@[local go_sem ↓] theorem yv6 {P : Program} (l : Option Nat) (ρ : Operand → Value) (o : Oper) (w : World) (h : ∀ c, o.op ≠ .defer c) : (Oper.semAt l ρ o).run P w = (execOp ρ o).run P w := by rw [Oper.semAt_eq l ρ o h]
theorem z9i (s : SlV) (l : List Nd) (i : Int) (w : World) (h : SlE Ene w (sv s) l) (hk : isT l i = false) :
  Calls Tryz.prog 115 #[.agg (tr ⟨s⟩), .int .i64 i] w (zxq [] w) := by
 have HP := Lib.hid (fun W (g : Below w.heap.size w W) => zgy s l i W (zac g h))
 rw [hk] at HP
 obtain ⟨W0, hW0⟩ : ∃ W0, W0 = ((w.alloc (.cells (tr ⟨s⟩) 28)).alloc (.cells #[.int .i64 i] 3)).alloc (.cells (tr ztr) 28) := ⟨_, rfl⟩
 obtain ⟨hB, h0, h1, h2, hz⟩ := zfw w _ _ _ _ _ _ W0 hW0
 have HB := Lib.hid hB
 have H0 := Lib.hid h0
 have H1 := Lib.hid h1
 have H2 := Lib.hid h2
 have HW := Lib.hid hW0
 clear hW0 h hk hB h0 h1 h2 hz
 go_enter Tryz.func115, Tryz.ntmps115
 go_wp2_with fail
 go_step3
 go_wp2_with fail
 rw [← HW.out]
 refine (HP.out W0 HB.out).mono ?_
 rintro e w1 ⟨rfl, g1⟩
 have G1 := Lib.hid (zad HB.out g1)
 have N2 := Lib.hid (zab g1 H2.out)
 have q2 := za8 N2.out (zbf _)
 clear g1
 go_wp2_with fail
 (try rw [Exit.noGoto_ret])
 exact bodyPost_ret (zcf Tryz.isAgg28 Tryz.sizeOf28 _ 4 rfl _ _ _ _ rfl (zpe N2.out (zbf _) (zbf ztr))) rfl ⟨⟨none, 0, 0⟩, rfl, zbv _ _ _, zav G1.out (by omega)⟩
structure CutM (l : List Nd) (i base bo bm bx j : Nat) (s : SlV) (W : World) : Prop where
 mp : W.ownsMap Tryz.prog 3 (plainElem Tryz.prog 3) bm (j + 1) (movD l i j)
 bxh : W.heap[bx]? = some (.cells #[.map (some bm)] 189 (0, 0))
 out : W.heap[bo]? = some (.cells (tr ⟨s⟩) 28 (0, 0))
 own : OwnE Ene W base (sv s) (zla l i j)
theorem CutM.tn {l : List Nd} {i base bo bm bx j : Nat} {s : SlV} {W W' : World} {bs : Nat → Prop} (h : CutM l i base bo bm bx j s W) (t : Tn bs W W') (h1 : ¬ bs bm) (h2 : ¬ bs bx) (h3 : ¬ bs bo) (h4 : ∀ k, (sv s).ownBlock = some k → ¬ bs k) : CutM l i base bo bm bx j s W' :=
 ⟨t.map h.mp h1, t.heap h.bxh h2, t.heap h.out h3, t.own h.own h4⟩
theorem CutM.below {l : List Nd} {i base bo bm bx j : Nat} {s : SlV} {W W' : World} (h : CutM l i base bo bm bx j s W) (g : Below W.heap.size W W') : CutM l i base bo bm bx j s W' :=
 h.tn (Tn.of_below (fun _ => False) g) id id id (fun _ _ => id)
theorem z3u (b1 o1 n cp : Nat) (l : List Nd) (i : Nat) (w : World) (h : SlE Ene w (.slice (some ⟨b1, o1, none⟩) n cp) l) (hb1 : b1 < w.heap.size) (hx1 : w.rangeAt b1 o1 (zan Ene l)) (hl : l.length = n) (hm : MayT l) (hi : i < n) :
  Calls Tryz.prog 115 #[.agg (tr ⟨⟨some ⟨b1, o1, none⟩, n, cp⟩⟩), .int .i64 (i : Int)] w (zxq (cutL l i) w) := by
 have HP : Hid (∀ W, Below w.heap.size w W → Calls Tryz.prog 60 #[.agg (tr ⟨⟨some ⟨b1, o1, none⟩, n, cp⟩⟩), .int .i64 (i : Int)] W fun e w' => e = .returned (.bool true) ∧ Below W.heap.size W w') := fun W g => by
  have := zgy ⟨some ⟨b1, o1, none⟩, n, cp⟩ l i W (zac g h)
  rwa [zkd hm (by omega)] at this
 have HX := Lib.hid hx1
 have HL := Lib.hid hl
 have HM := Lib.hid hm
 have HI := Lib.hid hi
 have HQ := Lib.hid hb1
 have HN : Hid (n ≤ 12) := by show n ≤ 12; have := hm.le; omega
 obtain ⟨W0, hW0⟩ : ∃ W0, W0 = ((w.alloc (.cells (tr ⟨⟨some ⟨b1, o1, none⟩, n, cp⟩⟩) 28)).alloc (.cells #[.int .i64 (i : Int)] 3)).alloc (.cells (tr ztr) 28) := ⟨_, rfl⟩
 obtain ⟨hB, h0, h1, h2, hz⟩ := zfw w _ _ _ _ _ _ W0 hW0
 have HB := Lib.hid hB
 have H0 := Lib.hid h0
 have H1 := Lib.hid h1
 have H2 := Lib.hid h2
 have HZ := Lib.hid hz
 have HW := Lib.hid hW0
 have hmm := @run_makeMap Tryz.prog
 clear hW0 h hx1 hl hm hi hb1 hB h0 h1 h2 hz
 refine callsIn_wide.1 (callsIn_of_wp_marks (n := 3) Tryz.func115 rfl trivial (wpIn_wide.2 ?_))
 simp only [Tryz.ntmps115, List.size_toArray, List.length_cons, List.length_nil, Nat.reduceAdd, Nat.reduceSub, Array.replicate_succ, Array.replicate_zero, List.push_toArray, List.append_toArray, List.nil_append, List.cons_append]
 go_wp2_with fail
 go_step3
 go_wp2_with fail
 rw [← HW.out]
 refine (HP.out W0 HB.out).mono ?_
 rintro e w1 ⟨rfl, g1⟩
 have G1 := Lib.hid (zad HB.out g1)
 have K0 := Lib.hid (zab g1 H0.out)
 have K1 := Lib.hid (zab g1 H1.out)
 have K2 := Lib.hid (zab g1 H2.out)
 have HS1 : Hid (w.heap.size + 3 ≤ w1.heap.size) := by show _ ≤ _; have := g1.size; have := HZ.out; omega
 obtain ⟨y0, _, yl⟩ := za2 K0.out
 dsimp only at y0
 rw [zat] at y0
 clear g1
 have HMD : Hid (((w1.alloc (.cells (tr ztr) 28)).alloc (.map #[] 0)).ownsMap Tryz.prog 3 (plainElem Tryz.prog 3) (w1.heap.size + 1) 0 (.map [] : DataW Unit)) := by
  have := World.ownsMap_made (H := Unit) (w1.alloc (.cells (tr ztr) 28)) Tryz.prog 3 (plainElem Tryz.prog 3)
  rwa [World.size_alloc] at this
 go_wp2_with (refine zpc _ rfl _ _ _ 189 rfl 3 3 keyed_int Tryz.underlying189 (plainElem Tryz.prog 3) (w1.heap.size + 1) 0 (.map []) rfl HMD.out (by decide) _ _ (iK (-1)) rfl rfl (zjs (by omega)) (iV (-1)) [] (plainElem_int Tryz.underlying3 (by decide)) ?_; intro w2 hown2 hgrow2)
 obtain ⟨bx, hbx⟩ : ∃ bx, bx = w2.heap.size := ⟨_, rfl⟩
 obtain ⟨bo, hbo⟩ : ∃ bo, bo = w1.heap.size := ⟨_, rfl⟩
 obtain ⟨bm, hbm⟩ : ∃ bm, bm = w1.heap.size + 1 := ⟨_, rfl⟩
 obtain ⟨W3, hW3⟩ : ∃ W3, W3 = w2.alloc (.cells #[.map (some (w1.heap.size + 1))] 189) := ⟨_, rfl⟩
 have hg2 := hgrow2.size
 simp only [World.size_alloc] at hg2
 have hB3 : Below w1.heap.size w1 W3 := by
  rw [hW3]
  exact (((below1 (w := w1)).trans ((below1 (w := w1.alloc _)).mono (by simp))).grown hgrow2 (by simp; omega) (fun k hk => by cases hk; omega)).alloc (by omega) _
 have hO3 : W3.heap[bo]? = some (.cells (tr ztr) 28 (0, 0)) := by
  have e0 := zab (below1 (w := w1.alloc (.cells (tr ztr) 28)) (o := .map #[] 0)) (heap_alloc_last w1 (.cells (tr ztr) 28 (0, 0)))
  have e1 := (hgrow2.block w1.heap.size (by simp; omega) (by intro e; injection e with e; omega)).trans e0
  rw [hW3, hbo]
  exact zab below1 e1
 have CM0 : Hid (CutM l i W3.heap.size bo bm bx 0 ⟨none, 0, 0⟩ W3) := by
  refine ⟨?_, ?_, hO3, zbv _ _ _⟩
  ·
   rw [hW3, hbm]; exact hown2.alloc _
  ·
   rw [hW3, hbx, hbm]; exact heap_alloc_last w2 _
 have HS3 : Hid (W3.heap.size = bx + 1 ∧ bm = bo + 1 ∧ bo = w1.heap.size ∧ bm < bx) := by
  refine ⟨by rw [hW3, hbx]; exact World.size_alloc _ _, by omega, hbo, by omega⟩
 have HB3 := Lib.hid hB3
 rw [← hW3, ← hbm, ← hbx, ← hbo]
 clear hB3 hO3 hW3 hown2 hgrow2 hg2 HMD hmm hbx hbo hbm
 go_step3
 clear y0 yl
 obtain ⟨y0, _, yl⟩ := za2 (zab HB3.out K0.out)
 dsimp only at y0
 rw [zat] at y0
 go_wp2_with fail
 refine wp_loop (fun a W => ∃ (j : Nat) (s : SlV) (u7 u8 u21 u22 u23 u24 u25 u26 u27 u48 u49 u50 : Value) (ds : List Nat), j ≤ n ∧ CutM l i W3.heap.size bo bm bx j s W ∧ Below w1.heap.size w1 W ∧ W3.heap.size ≤ W.heap.size ∧ (∀ D ∈ ds, W.heap[D]? = some (.deferred (some [])) ∧ W3.heap.size ≤ D) ∧ ds.Nodup ∧
   a = { tmps := #[.agg (tr ⟨⟨some ⟨b1, o1, none⟩, n, cp⟩⟩), .int .i64 (i : Int), .pointer (some ⟨w.heap.size, 0, none⟩), .pointer (some ⟨w.heap.size + 1, 0, none⟩), .pointer (some ⟨w.heap.size + 1 + 1, 0, none⟩), .pointer (some ⟨bo, 0, none⟩), .pointer (some ⟨bx, 0, none⟩), u7, u8, undef, .agg (tr ⟨⟨some ⟨b1, o1, none⟩, n, cp⟩⟩), .int .i64 (i : Int), .bool true, .bool false, undef, .map (some bm), .map (some bm), .pointer (some ⟨w.heap.size, 0, none⟩), .slice (some ⟨b1, o1, none⟩) n cp, .int .i64 (n : Int), .int .i64 (j : Int), u21, u22, u23, u24, u25, u26, u27, undef, undef, undef, undef, undef, undef, undef, undef, undef, undef, undef, undef, undef, undef, undef, undef, undef, undef, undef, undef, u48, u49, u50, undef], defers := ds.map mkD })
  (fun a _ => n - (intOf (a.tmps.getD 20 undef)).toNat) ?start ?round
 case start =>
  exact ⟨0, ⟨none, 0, 0⟩, _, _, _, _, _, _, _, _, _, _, _, _, [], Nat.zero_le _, CM0.out, HB3.out, Nat.le_refl _, fun D hD => (by cases hD), List.nodup_nil, rfl⟩
 case round =>
  rintro a wr ⟨j, s, u7, u8, u21, u22, u23, u24, u25, u26, u27, u48, u49, u50, ds, hj, hcm, hbw, hsz, hds, hnd, rfl⟩
  have HJ := Lib.hid hj
  have HCM := Lib.hid hcm
  have HBW := Lib.hid hbw
  have HSZ := Lib.hid hsz
  have HDS := Lib.hid hds
  have HND := Lib.hid hnd
  clear y0 yl hj hcm hbw hsz hds hnd CM0
  obtain ⟨y0, y1, yl⟩ := za2 (zab HBW.out K0.out)
  dsimp only at y0
  rw [zat] at y0
  by_cases hlt : j < n
  ·
   have i0 : (0 : Int) ≤ (j : Int) := by omega
   have i1 : (j : Int) < (n : Int) := by omega
   have u1 : (j : Int) + 1 < 10000 := by have := HN.out; omega
   have hmu : n - (intOf (Value.int .i64 (j : Int))).toNat = n - j := by simp [intOf]
   have HMU := Lib.hid hmu
   have HJN := Lib.hid hlt
   obtain ⟨x, hx⟩ : ∃ x, x = nd l j := ⟨_, rfl⟩
   have x0 := keep HBW.out (show ldA w1 (.pointer (some ⟨b1, o1 + j * 35, none⟩)) 35 = some (ne (nd l j)) from zwp (zhd G1.out HX.out) (by have := HL.out; omega))
   rw [← hx] at x0
   have HXx := Lib.hid hx
   clear hx hmu hlt
   go_wp2_with fail
   obtain ⟨W5, hW5⟩ : ∃ W5, W5 = (wr.alloc (.cells #[.int .i64 (j : Int)] 3)).alloc (.cells (ne x) 57) := ⟨_, rfl⟩
   obtain ⟨hB5, hk5, hn5, hz5⟩ := zd0 wr _ _ _ _ W5 hW5
   rw [← hW5]
   refine (zy0 _ _ _).mono ?_
   rintro e w6 ⟨rfl, hw6⟩
   obtain ⟨hB6, hT6, hC6, hz6⟩ := zd0 W5 _ _ _ _ w6 hw6
   have HG6 := Lib.hid (zad hB5 hB6)
   have HK6 := Lib.hid (zab hB6 hk5)
   have HN6 := Lib.hid (zab hB6 hn5)
   have HT6 := Lib.hid hT6
   have HC6 := Lib.hid hC6
   have HZ5 := Lib.hid hz5
   have HZ6 := Lib.hid hz6
   have HCM6 := Lib.hid (HCM.out.below (zad hB5 hB6))
   clear hW5 hB5 hk5 hn5 hz5 hw6 hB6 hT6 hC6 hz6 y0 y1 yl x0
   go_wp2_with fail
   refine (wpIn_wide (n := 3)).1 ?_
   have HB1 : Hid (Below w1.heap.size w1 w6) := HBW.out.trans (HG6.out.mono HBW.out.size)
   have HWw : Hid (Below w.heap.size w w6) := zad G1.out HB1.out
   refine wpIn_rangeFunc_ownG (w0 := w6) rfl (by omega) (gf := 90) (lb := #[.pointer (some ⟨W5.heap.size + 1, 0, none⟩), .pointer (some ⟨W5.heap.size, 0, none⟩)]) rfl trivial (zbb Tryz.func90 (by kernel_rfl) (by kernel_rfl))
    (zpa Fence.wide 2 trivial rfl (by omega) (W5.heap.size + 1) W5.heap.size b1 o1 n cp w6.heap.size l j w6 HM.out HL.out HJN.out
     (zao HC6.out).1 HT6.out (zhd HWw.out HX.out) (by have := HZ6.out; omega) (by have := HZ6.out; omega) (by have := HQ.out; have := HWw.out.size; have := HS1.out; have := HBW.out.size; have := HG6.out.size; omega) (Nat.le_refl _))
    belowK_t (belowK_b (Nat.le_refl _)) (Below.refl _ _) (fun _ => rfl)
    (fun pre W => (∀ y ∈ pre, y.1 ≠ i) ∧ Below w6.heap.size w6 W)
    (fun c pre W => (c = .exit 1 ∧ zcs l i j = true) ∧ (∃ s' : SlV, CutM l i W3.heap.size bo bm bx (j + 1) s' W) ∧ Below w1.heap.size w1 W ∧ W3.heap.size ≤ W.heap.size ∧ (∀ D ∈ ds, W.heap[D]? = some (.deferred (some []))))
    (z73 _ (Nat.le_refl _)) (fun c => ?ownx)
    ⟨fun _ h => absurd h List.not_mem_nil, Below.refl _ _⟩ ?a1 ?assign ?body ?done ?stop
   case ownx =>
    refine zvu fun pre W W' bs ⟨h1, ⟨s', h2⟩, h3, h4, h5⟩ t hbs => ?_
    have hlo : ∀ k, k < w6.heap.size → ¬ bs k := fun k hk e => by have := (hbs k e).1; omega
    have q1 := (Array.getElem?_eq_some_iff.1 HCM6.out.bxh).1
    have q2 := (Array.getElem?_eq_some_iff.1 HCM6.out.out).1
    have q3 := HCM6.out.mp.lt
    refine ⟨h1, ⟨s', h2.tn t (hlo _ q3) (hlo _ q1) (hlo _ q2) (fun k hk e => ?_)⟩, t.below h3 (fun k e => ?_) (Nat.le_trans (Nat.le_refl _) h3.size), Nat.le_trans h4 t.size, fun D hD => t.heap (h5 D hD) (hlo _ ?_)⟩
    ·
     obtain ⟨_, o, ho, hc⟩ := hbs k e
     rw [zgx h2.own hk ho] at hc
     cases hc
    ·
     have := (hbs k e).1
     have := HB1.out.size
     omega
    ·
     have := (Array.getElem?_eq_some_iff.1 (HDS.out D hD).1).1
     have := HG6.out.size
     omega
   case assign =>
    intro lo x W K hK
    gi_wp2
    exact hK
   case body =>
    rintro lo pre ⟨y, hy⟩ W ⟨hp, hB⟩ hlen
    have HP := Lib.hid hp
    have HBW6 := Lib.hid hB
    have c3 := (zao (zab (zad HB1.out hB) K1.out)).1
    by_cases he : i = y
    ·
     subst he
     have hkp : zcs l i j = true := zbg.2 ⟨by have := HL.out; have := HJN.out; omega, (zkx HM.out i j (by have := HL.out; have := HJN.out; omega)).1 hy⟩
     have N6 := Lib.hid (zab HBW6.out HN6.out)
     have K6 := Lib.hid (zab HBW6.out HK6.out)
     obtain ⟨sp, sn, sc⟩ := s
     have CM := Lib.hid (HCM6.out.below HBW6.out)
     have HR : Hid ((zla l i j).length = sn) := zdm (zak CM.out.own)
     have HKP := Lib.hid hkp
     have HO : Hid (∀ k, (Value.slice sp sn sc).ownBlock = some k → W3.heap.size ≤ k ∧ k < wr.heap.size) := fun k hk => zbm HCM.out.own hk
     have m0 := (zao CM.out.bxh).1
     have k0 := (zao K6.out).1
     obtain ⟨s0, _, _⟩ := za2 CM.out.out
     dsimp only at s0
     rw [zat] at s0
     have HSN : Hid (sn ≤ j) := by show sn ≤ j; have h1 := yi5 l i j; have h2 := HR.out; omega
     clear hp hB hlen
     have HPR := Lib.hid (yaa HM.out (by have := HL.out; have := HI.out; omega) hkp (.lit (.int .i64 0)) (by have := HL.out; have := HN.out; omega))
     clear hkp
     gi_wp2_with (first
      | (
        gi_at_mapUpdate
        refine wpListIn_mapUpdate_own _ rfl _ _ _ 189 rfl 3 3 keyed_int Tryz.underlying189 (plainElem Tryz.prog 3) bm (j + 1) _ rfl CM.out.mp (by unfold maxLen; have := HJ.out; have := HN.out; omega) _ _ _ rfl rfl (zjs (by have := HJ.out; have := HN.out; omega)) _ [] (plainElem_int Tryz.underlying3 (zzd (by have := HJ.out; have := HN.out; have := HSN.out; omega))) ?_
        intro v1 hown1 hgrow1
        have M1 : Hid (v1.ownsMap Tryz.prog 3 (plainElem Tryz.prog 3) bm (j + 2) (movD l i (j + 1))) := by
         show World.ownsMap _ _ _ _ _ _ _
         have e1 : movV l i j = (sn : Int) := by
          unfold movV
          rw [if_pos HKP.out, ← yc3, HR.out]
         unfold movD
         rw [e1]
         exact hown1
        have T1 : Hid (Tn (· = bm) W v1) := Tn.of_grown hgrow1 (fun k e => by cases e; rfl)
        have q1 := (zao (T1.out.heap CM.out.bxh (by have := HS3.out; omega))).1
        have q2 := (yje (T1.out.heap N6.out (by have := HS3.out; have := HSZ.out; omega))).2.1
        have q5 := zv3 (T1.out.heap N6.out (by have := HS3.out; have := HSZ.out; omega)) 32
        clear hown1 hgrow1)
      | (
        gi_at_lookup
        go_loud (
        refine wpListIn_lookup_own_int _ rfl _ _ 189 rfl 3 3 .i64 keyed_int Tryz.underlying189 Tryz.underlying3 (z0k _) bm (j + 2) _ rfl M1.out _ _ rfl (zjs (by have := HPR.out; rw [HXx.out]; omega)) ?_
        intro c hat hwc
        have HC := Lib.hid hat
        have N7 := Lib.hid (T1.out.heap N6.out (by have := HS3.out; have := HSZ.out; omega))
        have T2 : Hid (Tn (fun k => k = bm ∨ k = wr.heap.size + 1 ∨ k = bo ∨ (Value.slice sp sn sc).ownBlock = some k) W (v1.setCell ⟨wr.heap.size + 1, 32, none⟩ (.int .i64 c))) := (T1.out.mono (fun k e => .inl e)).trans (Tn.setCell _ _ _ (.inr (.inl rfl)))
        have N8 : Hid ((v1.setCell ⟨wr.heap.size + 1, 32, none⟩ (.int .i64 c)).heap[wr.heap.size + 1]? = some (.cells (ne { x with parent := c }) 57 (0, 0))) := by
         show _ = _
         rw [zaq N7.out, zx9]
        have B8 : Hid ((v1.setCell ⟨wr.heap.size + 1, 32, none⟩ (.int .i64 c)).heap[bo]? = some (.cells (tr ⟨⟨sp, sn, sc⟩⟩) 28 (0, 0))) := by
         show _ = _
         rw [Below.heap_setCell _ _ _ _ (by show bo ≠ wr.heap.size + 1; have := HS3.out; have := HSZ.out; omega)]
         exact T1.out.heap CM.out.out (by have := HS3.out; omega)
        have q3 := zaf N8.out (zow _)
        have q4 := (za2 B8.out).1
        dsimp only at q4
        rw [zat] at q4
        have O8 : Hid (OwnE Ene (v1.setCell ⟨wr.heap.size + 1, 32, none⟩ (.int .i64 c)) W3.heap.size (.slice sp sn sc) (zla l i j)) :=
         ((Tn.setCell (bs := (· = wr.heap.size + 1)) v1 32 (.int .i64 c) rfl).own (T1.out.own CM.out.own (fun k hk e => by have := HO.out k hk; have := HS3.out; omega)) (fun k hk e => by have := HO.out k hk; omega))
        clear hat hwc))
      | (
        gi_at_builtin
        go_loud (
        refine zo9 KneB _ rfl (.tmp 43) (.tmp 45) rfl W3.heap.size _ (zla l i j) rfl (za6 O8.out _) _ [{ x with parent := c }] rfl (ze9 _ [{ x with parent := c }] 1 _ _ _ rfl (by simp) (by simp [zan, Ene, zpt])) (by have := HR.out; have := HSN.out; have := HJ.out; have := HN.out; simp [maxLen]; omega) (by have := HR.out; have := HSN.out; have := HJ.out; have := HN.out; simp; omega) (by have := T1.out.size; have := HBW6.out.size; have := HZ6.out; have := HZ5.out; have := HSZ.out; simp; omega) ?_
        intro v' w' ho' hgr'
        obtain ⟨vp, vc, hv⟩ := zis ho' (n := sn + 1) (by rw [List.length_append, HR.out]; rfl)
        rw [hv] at ho' hgr' ⊢
        clear hv
        have HO' := Lib.hid ho'
        have T3 : Hid (Tn (fun k => k = bm ∨ k = wr.heap.size + 1 ∨ k = bo ∨ (Value.slice sp sn sc).ownBlock = some k) W w') := T2.out.trans ((Tn.alloc _ _ _).trans (Tn.of_grown hgr'.1 (fun k e => .inr (.inr (.inr e)))))
        have B9 : Hid (w'.heap[bo]? = some (.cells (tr ⟨⟨sp, sn, sc⟩⟩) 28 (0, 0))) := hgr'.heap (zab below1 B8.out) (fun e => by have := HO.out _ e; have := HS3.out; omega)
        have HMP : Hid (w'.ownsMap Tryz.prog 3 (plainElem Tryz.prog 3) bm (j + 2) (movD l i (j + 1))) :=
         (Tn.of_grown (bs := fun k => (Value.slice sp sn sc).ownBlock = some k) hgr'.1 (fun k e => e)).map ((Tn.alloc (· = wr.heap.size + 1) _ _).map ((Tn.setCell (bs := (· = wr.heap.size + 1)) v1 32 (.int .i64 c) rfl).map M1.out (by have := HS3.out; have := HSZ.out; omega)) (by have := HS3.out; have := HSZ.out; omega)) (fun e => by have := HO.out _ e; have := HS3.out; omega)
        have q6 := (za2 B9.out).1
        dsimp only at q6
        rw [zat] at q6
        have q7 := zv3 B9.out 0
        clear ho' hgr')))
     have T4 : Hid (Tn (fun k => k = bm ∨ k = wr.heap.size + 1 ∨ k = bo ∨ (Value.slice sp sn sc).ownBlock = some k) W (w'.setCell ⟨bo, 0, none⟩ (.slice vp (sn + 1) vc))) := T3.out.trans (Tn.setCell _ _ _ (.inr (.inr (.inl rfl))))
     have e1 : c = (cutN l i j).parent := by
      have h1 := HPR.out.1
      rw [← HXx.out] at h1
      have h2 := h1.symm.trans HC.out
      unfold iV at h2
      injection h2 with h3
      injection h3 with _ h4
      exact h4.symm
     have e2 : cutN l i j = { x with parent := c } := by rw [e1, HXx.out]; rfl
     have E2 := Lib.hid e2
     clear e1 e2
     refine ⟨zzj T4.out fun k hk => ?_, ⟨rfl, HKP.out⟩, ⟨⟨vp, sn + 1, vc⟩, ?_, ?_, ?_, ?_⟩, ?_, ?_, ?_⟩
     ·
      left
      have := HS3.out; have := HSZ.out; have := HZ5.out; have := HZ6.out
      rcases hk with h | h | h | h
      ·
       omega
      ·
       omega
      ·
       omega
      ·
       have := HO.out k h; omega
     ·
      exact (Tn.setCell (bs := (· = bo)) w' 0 _ rfl).map HMP.out (by have := HS3.out; omega)
     ·
      refine T4.out.heap CM.out.bxh fun hk => ?_
      have := HS3.out; have := HSZ.out
      rcases hk with h | h | h | h
      ·
       omega
      ·
       omega
      ·
       omega
      ·
       have := HO.out bx h; omega
     ·
      rw [zaq B9.out]
      congr 2
      exact ylw _ ⟨vp, sn + 1, vc⟩
     ·
      rw [ych HKP.out, E2.out]
      exact zyh HO'.out (by have := HS3.out; omega) _
     ·
      refine T4.out.below (HB1.out.trans (HBW6.out.mono HB1.out.size)) (fun k hk => ?_) (by have := HB1.out.size; have := HBW6.out.size; omega)
      have := HS3.out; have := HSZ.out
      rcases hk with h | h | h | h
      ·
       omega
      ·
       omega
      ·
       omega
      ·
       have := HO.out k h; omega
     ·
      have := T4.out.size; have := HBW6.out.size; have := HZ6.out; have := HZ5.out; have := HSZ.out; omega
     ·
      intro D hD
      have hd := HDS.out D hD
      have hl := (Array.getElem?_eq_some_iff.1 hd.1).1
      refine T4.out.heap (zab HBW6.out (zab HG6.out hd.1)) fun hk => ?_
      have := HS3.out
      rcases hk with h | h | h | h
      ·
       omega
      ·
       omega
      ·
       omega
      ·
       have := zgx HCM.out.own h hd.1
       cases this
    ·
     have t1 : ((y : Int) == (i : Int)) = false := by simp; omega
     have HE : Hid (y ≠ i) := fun e => he e.symm
     clear hp hB hlen he
     gi_wp2
     exact ⟨KeepsFrom.refl _ _, Below.refl _ _, fun z hz => by
      rcases List.mem_append.1 hz with h | h
      ·
       exact HP.out z h
      ·
       rw [List.mem_singleton] at h; subst h; exact HE.out, HBW6.out⟩
   case done =>
    rintro D ys W hD hys ⟨hp, hB⟩ hK
    have hX : zcs l i j = false := by
     rw [← Bool.not_eq_true]
     intro ha
     have hin := (zkx HM.out i j (by have := HL.out; have := HJN.out; omega)).2 (zbg.1 ha).2
     rw [← hys] at hin
     obtain ⟨y, hy, e⟩ := List.mem_map.1 hin
     exact hp y hy e
    have HX' := Lib.hid hX
    have HKD := Lib.hid hK
    have HBW6 := Lib.hid hB
    have HD := Lib.hid hD
    have CM := Lib.hid (HCM6.out.below HBW6.out)
    have m0 := (zao CM.out.bxh).1
    have k0 := (zao (zab HBW6.out HK6.out)).1
    clear hp hB hX hK hD hys
    go_wp2_with (at_mapUpdate; refine wpList_mapUpdate_own _ rfl _ _ _ 189 rfl 3 3 keyed_int Tryz.underlying189 (plainElem Tryz.prog 3) bm (j + 1) _ rfl CM.out.mp (by unfold maxLen; have := HJ.out; have := HN.out; omega) _ _ _ rfl rfl (zjs (by have := HJ.out; have := HN.out; omega)) _ [] (plainElem_int Tryz.underlying3 (zzd (by omega))) ?_; intro v1 hown1 hgrow1)
    have T1 : Tn (· = bm) W v1 := Tn.of_grown hgrow1 (fun k e => by cases e; rfl)
    have z1 := HS3.out
    have z2 := HSZ.out
    have z3 := HZ5.out
    have z4 := HZ6.out
    have z5 := HD.out
    have z6 := HBW6.out.size
    have z7 := HJN.out
    refine ⟨⟨j + 1, s, _, _, _, _, _, _, _, _, _, _, _, _, D :: ds, HJN.out, ⟨?m1, T1.heap CM.out.bxh (by omega), T1.heap CM.out.out (by omega), ?m2⟩, ?m3, by have := T1.size; omega, ?m4, ?m5, rfl⟩, ?m7⟩
    case m1 =>
     unfold movD
     rw [show movV l i j = -1 from by unfold movV; rw [if_neg (by rw [HX'.out]; exact Bool.false_ne_true)]]
     exact hown1
    case m2 => rw [ym5 HX'.out]; exact T1.own CM.out.own (fun k hk e => by have := zbm CM.out.own hk; omega)
    case m3 => exact T1.below (HB1.out.trans (HBW6.out.mono HB1.out.size)) (fun k e => by omega) (by have := HB1.out.size; omega)
    case m4 =>
     intro E hE
     rcases List.mem_cons.1 hE with rfl | hE
     ·
      exact ⟨T1.heap HKD.out (by omega), by omega⟩
     ·
      have hd := HDS.out E hE
      exact ⟨T1.heap (zab HBW6.out (zab HG6.out hd.1)) (by omega), hd.2⟩
    case m5 =>
     refine List.nodup_cons.2 ⟨fun hE => ?_, HND.out⟩
     have := (Array.getElem?_eq_some_iff.1 (HDS.out D hE).1).1
     omega
    case m7 => simp [intOf]; omega
   case stop =>
    rintro D c pre W hD hpre ⟨⟨rfl, hkp⟩, ⟨s', hcm'⟩, hbw', hsz', hds'⟩ hK
    have HKD := Lib.hid hK
    have HD := Lib.hid hD
    have HCM' := Lib.hid hcm'
    have HBW' := Lib.hid hbw'
    have HSZ' := Lib.hid hsz'
    have HDS' := Lib.hid hds'
    clear hkp hcm' hbw' hsz' hds' hD hpre hK
    gi_wp2
    go_wp2_with fail
    have z1 := HS3.out
    have z2 := HSZ.out
    have z3 := HZ5.out
    have z4 := HZ6.out
    have z5 := HD.out
    have z7 := HJN.out
    refine ⟨⟨j + 1, s', _, _, _, _, _, _, _, _, _, _, _, _, D :: ds, HJN.out, HCM'.out, HBW'.out, HSZ'.out, ?s4, ?s5, rfl⟩, ?s7⟩
    case s4 =>
     intro E hE
     rcases List.mem_cons.1 hE with rfl | hE
     ·
      exact ⟨HKD.out, by omega⟩
     ·
      exact ⟨HDS'.out E hE, (HDS.out E hE).2⟩
    case s5 =>
     refine List.nodup_cons.2 ⟨fun hE => ?_, HND.out⟩
     have := (Array.getElem?_eq_some_iff.1 (HDS.out D hE).1).1
     omega
    case s7 => simp [intOf]; omega
  ·
   obtain rfl : j = n := by have := HJ.out; omega
   clear hlt
   have q1 := (za2 HCM.out.out).2.1
   have N2 := Lib.hid (zab HBW.out K2.out)
   have q2 := za8 N2.out (zbf _)
   go_wp2_with fail
   (try rw [Exit.noGoto_ret])
   have z1 := HS3.out
   have z2 := HSZ.out
   have z3 := HS1.out
   have z4 := HBW.out.size
   have hW1 : (stA wr (.pointer (some ⟨w.heap.size + 1 + 1, 0, none⟩)) (.agg (tr ⟨s⟩))).heap[w.heap.size + 1 + 1]? = some (.cells (tr ⟨s⟩) 28 (0, 0)) := yhd N2.out (by rw [zbf, zbf])
   have hds : ∀ D ∈ ds, (stA wr (.pointer (some ⟨w.heap.size + 1 + 1, 0, none⟩)) (.agg (tr ⟨s⟩))).heap[D]? = some (.deferred (some [])) := fun D hD => (zc0 (by have := (HDS.out D hD).2; omega)).trans (HDS.out D hD).1
   refine zy2 ds _ HND.out hds fun W' hT => ?_
   have hW2 := hT.heap hW1 (fun hD => by have := (HDS.out _ hD).2; omega)
   have ho : OwnE Ene W' W3.heap.size (sv s) (cutL l i) := by
    have e1 : zla l i j = cutL l i := by rw [← HL.out]; exact yd6 l i
    rw [← e1]
    refine hT.own (zd7 HCM.out.own (by omega)) fun k hk hD => ?_
    have := zgx HCM.out.own hk (HDS.out k hD).1
    cases this
   refine ⟨_, zcf Tryz.isAgg28 Tryz.sizeOf28 _ 4 rfl _ _ _ _ rfl (zaf hW2 (zbf _)), s, rfl, zbi ho (by omega), ?_⟩
   exact hT.below (zav (zad G1.out HBW.out) (by omega)) (fun k hk => by have := (HDS.out k hk).2; omega) (by rw [zmr]; omega)
theorem ylo (s : SlV) (l : List Nd) (i : Int) (w : World) (h : SlE Ene w (sv s) l) :
  Calls Tryz.prog 115 #[.agg (tr ⟨s⟩), .int .i64 i] w (zxq (cutZ l i) w) := by
 by_cases hk : isT l i = true
 ·
  obtain ⟨hm, hk0, hk1⟩ := ziz.1 hk
  obtain ⟨i', rfl⟩ : ∃ i' : Nat, i = i' := ⟨i.toNat, by omega⟩
  have e : cutZ l (i' : Int) = cutL l i' := by unfold cutZ; rw [if_pos hk, Int.toNat_natCast]
  rw [e]
  have hn := zdm h
  obtain ⟨p, n, cp⟩ := s
  dsimp only at hn
  subst hn
  obtain ⟨b1, o1, rfl, q1, q2⟩ := zf4 h (by omega)
  exact z3u b1 o1 _ cp l i' w h q1 q2 rfl hm (by omega)
 ·
  have e : cutZ l i = [] := by unfold cutZ; rw [if_neg hk]
  rw [e]
  exact z9i s l i w h (by simpa using hk)
end
end Go.Proofs.YtmihlihlpdkdcaaGreat
