/-
  An element stored whole into a row of the call's own; for every program.
  Package final: what Next hands to slices.DeleteFunc; slices.IndexFunc and slices.DeleteFunc at checkpoints, walked with it.
-/
import Derived.Test.YtlhnjaeocoafnaaQ13
import Derived.Test.YtlhnjaeocoafnaaQ07
import Derived.Test.YtlhnjaeocoafnaaQ14
import Derived.Test.YtlhnjaeocoafnaaQ29
import Derived.Test.YtlhnjaeocoafnaaQ41
import Derived.Laws.IdiomCopy
import Derived.Lib.EndianMore
import Derived.Deep.Cut
import Derived.Deep.CutRange
import Derived.Deep.RegionLaw
namespace Go.Proofs.Ytlhnjaeocoafnaa
open Go.RowKit
set_option maxRecDepth 100000
section
variable {α : Type} {E : Lie α}
theorem ownE_put {w : World} {base g n cap : Nat} {l : List α} (h : OwnE E w base (.slice (some ⟨g, 0, none⟩) n cap) l) (hn : l.length = n) {i : Nat} (hi : i < n) (y : α) {r : Array Value} (hr : r.toList = E.enc y) : OwnE E (stA w (.pointer (some ⟨g, i * E.n, none⟩)) (.agg r)) base (.slice (some ⟨g, 0, none⟩) n cap) (l.set i y) := by
  subst hn
  unfold OwnE at h ⊢
  obtain ⟨_, h2⟩ := h
  rcases h2 with ⟨e, _⟩ | ⟨g', cap', cur, e, hb, hg, hc, hm, hs, ht⟩
  · cases e
  · injection e with e1 _ e3
    injection e1 with e1
    injection e1 with e1
    subst e1 e3
    have hsz : r.size = E.n := by rw [← Array.length_toList, hr, E.len]
    have hmul : (i + 1) * E.n ≤ l.length * E.n := Nat.mul_le_mul hi (Nat.le_refl _)
    have hcap : l.length * E.n ≤ cap * E.n := Nat.mul_le_mul hc (Nat.le_refl _)
    have hsucc : (i + 1) * E.n = i * E.n + E.n := Nat.succ_mul _ _
    have hfit : i * E.n + r.size ≤ cur.size := by omega
    refine ⟨by rw [cellsE_length], .inr ⟨g, cap, putSeg cur (i * E.n) r, by rw [List.length_set], hb, heap_stA_same hg hfit, by rw [List.length_set]; exact hc, hm, by rw [putSeg_size hfit, hs], ?_⟩⟩
    have h1 : (cellsE E (l.take i)).length = i * E.n := by rw [cellsE_length, List.length_take, Nat.min_eq_left (by omega)]
    have h3 : (E.enc l[i]).length = E.n := E.len _
    have ht' := ht
    rw [cellsE_cut l hi] at ht'
    have t1 : cur.toList.take (i * E.n) = cellsE E (l.take i) := by
      have := congrArg (List.take (i * E.n)) ht'
      rw [List.take_take, Nat.min_eq_left (by omega), List.take_left' h1] at this
      exact this
    have t2 : (cur.toList.drop (i * E.n + E.n)).take (l.length * E.n - (i * E.n + E.n)) = cellsE E (l.drop (i + 1)) := by
      have := congrArg (List.drop (i * E.n + E.n)) ht'
      rw [List.drop_take, ← List.append_assoc, List.drop_left' (by rw [List.length_append, h1, h3])] at this
      exact this
    rw [List.length_set, cellsE_set l hi]
    unfold putSeg
    rw [hsz, hr, t1]
    have e4 : (cellsE E (l.take i) ++ E.enc y).length = i * E.n + E.n := by rw [List.length_append, h1, E.len]
    rw [← List.append_assoc, List.toList_toArray, List.take_append, e4, List.take_of_length_le (by rw [e4]; omega), t2, List.append_assoc]
end
end Go.Proofs.Ytlhnjaeocoafnaa
namespace Go.Proofs.Ytlhnjaeocoafnaa
open Go.RowKit
set_option maxRecDepth 100000

/-- Is it not later? -/
def noLater (fin c : Ck) : Bool := decide (c.epoch.toNat ≤ fin.epoch.toNat)
theorem enters_next1 : ∀ args w, (callFunc 42 args).run Try.prog w = .ok (.enter 42 args) w := entersE Try.func42 (by kernel_rfl) (by kernel_rfl)
set_option maxRecDepth 100000 in
set_option maxHeartbeats 2000000 in
theorem progNext1 (bf : Nat) (fin c : Ck) (w : World) (h : w.heap[bf]? = some (.cells (cc fin) 32 (0, 0))) :
    Calls Try.prog 42 #[.agg (cc c), .pointer (some ⟨bf, 0, none⟩)] w fun e w' => e = .returned (.bool (noLater fin c)) ∧ Below w.heap.size w w' := by
  obtain ⟨A, hA⟩ : ∃ A, A = c.epoch.toNat := ⟨_, rfl⟩
  obtain ⟨B, hB⟩ : ∃ B, B = fin.epoch.toNat := ⟨_, rfl⟩
  have hT : noLater fin c = decide (A ≤ B) := by rw [hA, hB]; rfl
  rw [hT]
  obtain ⟨W0, hW0⟩ : ∃ W0, W0 = w.alloc (.cells (cc c) 32) := ⟨_, rfl⟩
  have HB : Hid (Below w.heap.size w W0) := by rw [hW0]; exact below1
  have y0 := (ck_v (show W0.heap[w.heap.size]? = _ from by rw [hW0]; exact heap_alloc_last w _)).e
  have y1 := (ck_v (blk_keep HB.out h)).e
  rw [← hA] at y0
  rw [← hB] at y1
  have HW := Lib.hid hW0
  have t4 : decide ((A : Int) ≤ (B : Int)) = decide (A ≤ B) := decide_eq_decide.2 (by omega)
  obtain ⟨E, hE⟩ : ∃ E, E = decide (A ≤ B) := ⟨_, rfl⟩
  rw [← hE] at t4 ⊢
  have t4' : decide (A ≤ B) = E := hE.symm
  clear hW0 h hA hB hT hE
  go_enter Try.func42, Try.ntmps42
  go_upto_region 1 with fail
  rw [← HW.out]
  go_wp2_with fail
  go_ret
  exact ⟨rfl, HB.out⟩

/-- The first one that is not later: none, or this. -/
def IdxIs (fin : Ck) (l : List Ck) (w : World) (e : Ending) (w' : World) : Prop :=
  Below w.heap.size w w' ∧ ((e = .returned (.int .i64 (-1)) ∧ (l.filter fun c => !noLater fin c) = l) ∨ ∃ k : Nat, e = .returned (.int .i64 (k : Int)) ∧ k < l.length ∧ noLater fin (ckAt l k) = true ∧ ((l.take k).filter fun c => !noLater fin c) = l.take k)
theorem take_keep {fin : Ck} {l : List Ck} {j : Nat} (hj : j < l.length) (h : ((l.take j).filter fun c => !noLater fin c) = l.take j) (hk : noLater fin (ckAt l j) = false) : ((l.take (j + 1)).filter fun c => !noLater fin c) = l.take (j + 1) := by
  rw [List.take_add_one, List.getElem?_eq_getElem hj, List.filter_append, h]
  congr 1
  rw [ckAt_in hj] at hk
  show List.filter _ [_] = [_]
  rw [List.filter_cons, hk]
  rfl
set_option maxRecDepth 100000 in
set_option maxHeartbeats 4000000 in
theorem idxFunc_n (bf : Nat) (fin : Ck) (p : Option Addr) (n cp : Nat) (l : List Ck) (w : World) (h : SlE Ecc w (.slice p n cp) l) (hl : l.length = n) (hn : n ≤ 1000) (hb : w.heap[bf]? = some (.cells (cc fin) 32 (0, 0))) :
    Calls Try.prog 70 #[.slice p n cp, .func (.func 42) #[] #[.pointer (some ⟨bf, 0, none⟩)]] w (IdxIs fin l w) := by
  have HP := Lib.hid (fun (c : Ck) (W : World) (g : Below w.heap.size w W) => progNext1 bf fin c W (blk_keep g hb))
  have K := Lib.hid h
  have HL := Lib.hid hl
  have HN := Lib.hid hn
  have eg := enters_next1
  clear h hl hn hb
  go_enter Try.func70, Try.ntmps70
  go_wp2_with fail
  go_loopw [8] (fun i wr => ∃ j : Nat, j ≤ n ∧ i = .int .i64 (j : Int) ∧ ((l.take j).filter fun c => !noLater fin c) = l.take j ∧ Below w.heap.size w wr) (fun i _ => n - (intOf i).toNat)
  case atStart => exact ⟨0, Nat.zero_le _, rfl, rfl, Below.refl _ _⟩
  case round =>
    obtain ⟨j, hj, rfl, hf, hg⟩ := hrel
    have HF := Lib.hid hf
    have HG := Lib.hid hg
    clear hf hg
    by_cases hlt : j < n
    · have i0 : (0 : Int) ≤ (j : Int) := by omega
      have i1 : (j : Int) < (n : Int) := by omega
      have d0 : decide ((j : Int) < (n : Int)) = true := decide_eq_true i1
      have d0' : decide (j < n) = true := decide_eq_true hlt
      have u1 : (j : Int) + 1 < 10000 := by have := HN.out; omega
      have HLT := Lib.hid hlt
      obtain ⟨b1, o1, rfl, q1, x1⟩ := ccs_ptr K.out (by have := HL.out; omega)
      have y1 := Go.Proofs.Ytlhnjaeocoafnaa.keep HG.out (ccs_ld x1 (i := j) (by have := HL.out; omega))
      have HTk : Hid (noLater fin (ckAt l j) = false → ((l.take (j + 1)).filter fun c => !noLater fin c) = l.take (j + 1)) := take_keep (by rw [HL.out]; exact hlt) HF.out
      have HQ := Lib.hid (HP.out (ckAt l j) wr HG.out)
      obtain ⟨r, hr⟩ : ∃ r, r = noLater fin (ckAt l j) := ⟨_, rfl⟩
      rw [← hr] at HTk HQ
      have HR := Lib.hid hr
      generalize ckAt l j = C at y1 HQ
      clear x1 q1 hlt hj hr
      go_wp2_with fail
      refine HQ.out.mono ?_
      rintro e w1 ⟨rfl, g⟩
      have G1 := Lib.hid (belowT HG.out g)
      clear g y1
      cases r
      · go_wp2_with fail
        go_roundw
        case rel => exact ⟨j + 1, HLT.out, by go_num, (by have := HTk.out; simpa using this), G1.out⟩
        case measure => simp [intOf]; have := HLT.out; omega
      · go_wp2_with fail
        go_ret
        exact ⟨G1.out, .inr ⟨j, rfl, by rw [HL.out]; exact HLT.out, HR.out.symm, HF.out⟩⟩
    · obtain rfl : j = n := by omega
      have d0 : decide ((j : Int) < (j : Int)) = false := decide_eq_false (Int.lt_irrefl _)
      have d0' : decide (j < j) = false := decide_eq_false (Nat.lt_irrefl _)
      have HE : Hid ((l.filter fun c => !noLater fin c) = l) := by
        have := HF.out
        rwa [List.take_of_length_le (by rw [HL.out]; exact Nat.le_refl _)] at this
      clear hlt
      go_wp2_with fail
      go_ret
      exact ⟨HG.out, .inl ⟨rfl, HE.out⟩⟩
theorem enters_idxFunc : ∀ args w, (callFunc 70 args).run Try.prog w = .ok (.enter 70 args) w := entersE Try.func70 (by kernel_rfl) (by kernel_rfl)

/-! ### clear -/
theorem own_there {w : World} {base g n c : Nat} {l : List Ck} (h : OwnE Ecc w base (.slice (some ⟨g, 0, none⟩) n c) l) (hl : l.length = n) : w.there g 0 (n * 33) := fun x hx => by
  have hi : x / 33 < n := by omega
  have := wrA_there.1 (ownE_wr h hl hi) (x % 33) (Nat.mod_lt _ (by decide))
  have e : 0 + x / 33 * Ecc.n + x % 33 = 0 + x := by show 0 + x / 33 * 33 + x % 33 = 0 + x; omega
  rw [e] at this
  exact this
theorem run_clear_seg {P : Program} {t e : TypeId} {z : Array Value} (ht : P.underlying t = some (.slice e)) (hv : ∀ w, (zeroValue e).run P w = .ok (.agg z) w) (hz : ∀ v ∈ z.toList, v.oneCell' = true) (hp : 0 < z.size) (w : World) (g o m c : Nat) (hm : 0 < m) (h : w.there g o (m * z.size)) :
    ∃ vs, vs.length = m * z.size ∧ ∀ ty, (Builtin.clear_ #[t] ty #[.slice (some ⟨g, o, none⟩) m c]).run P w = .ok (.tuple #[]) (w.setCells g o vs) := by
  have hsz : (Builtin.zeroCells z m).toList.length = m * z.size := by simp [Builtin.zeroCells]
  refine ⟨(Builtin.zeroCells z m).toList, hsz, fun ty => ?_⟩
  have hone : ∀ v ∈ (Builtin.zeroCells z m).toList, v.oneCell' = true := fun v hv => by
    simp only [Builtin.zeroCells, Array.toList_map, Array.toList_range, List.mem_map, List.mem_range] at hv
    obtain ⟨j, _, rfl⟩ := hv
    have hj : j % z.size < z.size := Nat.mod_lt _ hp
    rw [getElem!_pos z _ hj]
    exact hz _ (Array.getElem_mem_toList ..)
  have hst := run_storeCells_cells (P := P) g o (Builtin.zeroCells z m).toList 0 w (fun j hj => (h j (by rw [← hsz]; exact hj)).1) (fun j hj => (h j (by rw [← hsz]; exact hj)).2) hone
  simp only [Nat.add_zero] at hst
  obtain ⟨m', rfl⟩ : ∃ m', m = m' + 1 := ⟨m - 1, by omega⟩
  simp [Builtin.clear_, run_underlying ht, hv, Value.cells, hst]
theorem run_clear_cc (w : World) (g i m c : Nat) (hm : 0 < m) (h : w.there g (i * 33) (m * 33)) : ∃ vs, vs.length = m * 33 ∧ ∀ ty, (Builtin.clear_ #[27] ty #[.slice (some ⟨g, i * 33, none⟩) m c]).run Try.prog w = .ok (.tuple #[]) (w.setCells g (i * 33) vs) := by
  have h33 : (cc zcc).size = 33 := cc_size zcc
  have := run_clear_seg (P := Try.prog) (z := cc zcc) Try.underlying27 zero_cc (fun v hv => Ecc.one zcc v (by show v ∈ ccL zcc; rw [← cc_list]; exact hv)) (by rw [h33]; decide) w g (i * 33) m c hm (by rw [h33]; exact h)
  rwa [h33] at this
theorem clear_keep {w : World} {base g n c i : Nat} {l : List Ck} {vs : List Value} (h : OwnE Ecc w base (.slice (some ⟨g, 0, none⟩) n c) l) (hl : l.length = n) (hi : i ≤ n) : SlE Ecc (w.setCells g (i * 33) vs) (.slice (some ⟨g, 0, none⟩) i c) (l.take i) ∧ Below base w (w.setCells g (i * 33) vs) := by
  have hb := (ownE_lt h (b := g) rfl)
  have hB := Lib.below_setCells_w (B := base) hb.1 vs (i * 33) w
  refine ⟨?_, hB⟩
  obtain ⟨p, c', e, hc, hh⟩ := ownE_slE h
  injection e with e1 e2 e3
  subst e3
  refine ⟨_, c, by rw [List.length_take, hl, Nat.min_eq_left hi], by rw [List.length_take]; omega, ?_⟩
  rcases hh with rfl | ⟨b, off, e4, hlt, hx⟩
  · left; exact List.take_nil
  · rw [← e1] at e4
    injection e4 with e4
    injection e4 with e4 e5
    subst e4 e5
    refine .inr ⟨g, 0, rfl, Nat.lt_of_lt_of_le hlt hB.size, ?_⟩
    have hsplit : cellsE Ecc l = cellsE Ecc (l.take i) ++ cellsE Ecc (l.drop i) := by rw [← cellsE_append, List.take_append_drop]
    have hlen : (cellsE Ecc (l.take i)).length = i * 33 := by rw [cellsE_length, List.length_take, Nat.min_eq_left (by omega)]; rfl
    refine World.rangeAt_setCells_apart (fun j v hv => hx j v ?_) g (i * 33) vs (.inr (.inl (by rw [hlen]; omega)))
    rw [hsplit, List.getElem?_append_left (List.getElem?_eq_some_iff.1 hv).1]
    exact hv

theorem cut_out (g n c i : Nat) (hi : i < n) (hc : n ≤ c) : cutFE 33 (.slice (some ⟨g, 0, none⟩) n c) (.int .i64 (i : Int)) = some (.slice (some ⟨g, i * 33, none⟩) (n - i) (c - i)) := by
  show (if 0 ≤ (i : Int) ∧ (i : Int) ≤ (n : Int) then some (sliced (some ⟨g, 0, none⟩) (i : Int).toNat n c 33) else none) = _
  rw [if_pos (by omega), Int.toNat_natCast]
  unfold sliced
  rw [if_neg (by omega)]
  simp [Addr.add_mid]
theorem cut_in (g n c i : Nat) (hi : i ≤ n) (hc : n ≤ c) (h0 : 0 < c) : cutTE 33 (.slice (some ⟨g, 0, none⟩) n c) (.int .i64 (i : Int)) = some (.slice (some ⟨g, 0, none⟩) i c) := by
  show (if 0 ≤ (i : Int) ∧ (i : Int) ≤ (c : Int) then some (sliced (some ⟨g, 0, none⟩) 0 (i : Int).toNat c 33) else none) = _
  rw [if_pos (by omega), Int.toNat_natCast]
  unfold sliced
  rw [if_neg (by omega)]
  simp [Addr.add]
@[local go_sem ↓] theorem slice_to_ccD (ρ : Operand → Value) (dst : Option Tmp) (x hi : Operand) (ty : TypeId) (pos : String) (after : Array Edge) (guard : Option (Nat × Bool)) (w : World) :
    (execOp ρ { dst, op := .slice 27 x none (some hi) none, type := ty, pos, after, guard }).run Try.prog w = vOutE (cutTE 33 (ρ x) (ρ hi)) w (opRest Try.prog ρ { dst, op := .slice 27 x none (some hi) none, type := ty, pos, after, guard } w) :=
  slice_to_E Try.underlying27 Try.sizeOf32 ρ dst x hi ty pos after guard w
/-- How far it is: the first i stay, those from j on are as they were. -/
structure Dl (fin : Ck) (f a : List Ck) (n i j : Nat) : Prop where
  len : a.length = n
  lt : i < j
  le : j ≤ n
  lo : a.take i = (f.take j).filter fun c => !noLater fin c
  hi : ∀ x, j ≤ x → x < n → ckAt a x = ckAt f x
section
variable {fin : Ck} {f a : List Ck} {n i j : Nat}
theorem take_snoc (hl : f.length = n) (hj : j < n) : f.take (j + 1) = f.take j ++ [ckAt f j] := by
  rw [List.take_add_one, List.getElem?_eq_getElem (by omega), ckAt_in (by omega)]; rfl
theorem Dl.skip (h : Dl fin f a n i j) (hl : f.length = n) (hj : j < n) (hk : noLater fin (ckAt f j) = true) : Dl fin f a n i (j + 1) := by
  refine ⟨h.len, Nat.lt_succ_of_lt h.lt, hj, ?_, fun x hx hn => h.hi x (by omega) hn⟩
  rw [h.lo, take_snoc hl hj, List.filter_append]
  have : List.filter (fun c => !noLater fin c) [ckAt f j] = [] := by rw [List.filter_cons, hk]; rfl
  rw [this, List.append_nil]
theorem Dl.stay (h : Dl fin f a n i j) (hl : f.length = n) (hj : j < n) (hk : noLater fin (ckAt f j) = false) : Dl fin f (a.set i (ckAt f j)) n (i + 1) (j + 1) := by
  have hlt := h.lt
  have hlen := h.len
  refine ⟨by rw [List.length_set]; exact hlen, by omega, hj, ?_, fun x hx hn => ?_⟩
  · rw [take_snoc hl hj, List.filter_append, ← h.lo]
    have : List.filter (fun c => !noLater fin c) [ckAt f j] = [ckAt f j] := by rw [List.filter_cons, hk]; rfl
    rw [this, List.take_add_one, List.getElem?_set_self (by omega), List.take_set, List.set_eq_of_length_le (by rw [List.length_take]; omega)]
    rfl
  · have := h.hi x (by omega) hn
    unfold ckAt at this ⊢
    rw [List.getD_eq_getElem?_getD, List.getElem?_set_ne (by omega), ← List.getD_eq_getElem?_getD]
    exact this
theorem Dl.start (hl : f.length = n) (hi : i < n) (h : ((f.take i).filter fun c => !noLater fin c) = f.take i) (hk : noLater fin (ckAt f i) = true) : Dl fin f f n i (i + 1) := by
  refine ⟨hl, Nat.lt_succ_self i, hi, ?_, fun _ _ _ => rfl⟩
  rw [take_snoc hl hi, List.filter_append, h]
  have : List.filter (fun c => !noLater fin c) [ckAt f i] = [] := by rw [List.filter_cons, hk]; rfl
  rw [this, List.append_nil]
end
def DelIs (fin : Ck) (f : List Ck) (B : Nat) (w : World) (e : Ending) (w' : World) : Prop := ∃ v, e = .returned v ∧ SlE Ecc w' v (f.filter fun c => !noLater fin c) ∧ Below B w w'
set_option maxRecDepth 100000 in
set_option maxHeartbeats 8000000 in
theorem delFunc_n (bf B g n c : Nat) (fin : Ck) (f : List Ck) (w : World) (h : OwnE Ecc w B (.slice (some ⟨g, 0, none⟩) n c) f) (hl : f.length = n) (hn : n ≤ 1000) (hB : B ≤ w.heap.size) (hbf : bf < B) (hb : w.heap[bf]? = some (.cells (cc fin) 32 (0, 0))) :
    Calls Try.prog 43 #[.slice (some ⟨g, 0, none⟩) n c, .func (.func 42) #[] #[.pointer (some ⟨bf, 0, none⟩)]] w (DelIs fin f B w) := by
  have HP := Lib.hid (fun (d : Ck) (W : World) (k : Below B w W) => progNext1 bf fin d W ((k.block bf hbf).trans hb))
  have HI := Lib.hid (idxFunc_n bf fin (some ⟨g, 0, none⟩) n c f w (ownE_slE h) hl hn hb)
  have HO := Lib.hid h
  have HL := Lib.hid hl
  have HN := Lib.hid hn
  have HBs := Lib.hid hB
  have HGb : Hid (B ≤ g) := (ownE_lt h (b := g) rfl).1
  have HCp : Hid (n ≤ c) := by
    obtain ⟨_, _, e, hh⟩ := slE_shape (ownE_slE h)
    injection e with _ e2 e3
    show n ≤ c
    omega
  have eg := enters_next1
  clear h hl hn hB hbf hb
  go_enter Try.func43, Try.ntmps43
  go_wp2_with fail
  refine HI.out.mono ?_
  rintro e w1 ⟨g1, ⟨rfl, hf⟩ | ⟨k, rfl, hk, hd, hf⟩⟩
  · have HF := Lib.hid hf
    have G1 : Hid (Below B w w1) := g1.mono HBs.out
    replace HO := Lib.hid (ownE_keep g1 HO.out)
    clear hf g1 HI
    go_wp2_with fail
    go_ret
    exact ⟨_, rfl, by rw [HF.out]; exact ownE_slE HO.out, G1.out⟩
  · have G1 : Hid (Below B w w1) := g1.mono HBs.out
    replace HO := Lib.hid (ownE_keep g1 HO.out)
    have D0 : Hid (Dl fin f f n k (k + 1)) := Dl.start HL.out (by rw [← HL.out]; exact hk) hf hd
    have HK : Hid (k < n) := by show k < n; rw [← HL.out]; exact hk
    have e1 : ((k : Int) == -1) = false := beq_eq_false_iff_ne.2 (by omega)
    have u0 : (k : Int) + 1 < 10000 := by have := HK.out; have := HN.out; omega
    clear hf hd hk g1 HI
    go_wp2_with fail
    go_loopw [5, 6] (fun a b wr => ∃ (i j : Nat) (l : List Ck), a = .int .i64 (i : Int) ∧ b = .int .i64 (j : Int) ∧ Dl fin f l n i j ∧ OwnE Ecc wr B (.slice (some ⟨g, 0, none⟩) n c) l ∧ Below B w wr) (fun _ b _ => n - (intOf b).toNat)
    case atStart => exact ⟨k, k + 1, f, rfl, by go_num, D0.out, HO.out, G1.out⟩
    case round =>
      obtain ⟨i, j, l, rfl, rfl, hd, ho, hg⟩ := hrel
      have D := Lib.hid hd
      replace HO := Lib.hid ho
      replace G1 := Lib.hid hg
      clear hd ho hg D0 u0 e1
      have HSw : Hid (B ≤ wr.heap.size) := Nat.le_trans HBs.out G1.out.size
      by_cases hlt : j < n
      · have i0 : (0 : Int) ≤ (j : Int) := by omega
        have i1 : (j : Int) < (n : Int) := by omega
        have d0 : decide ((j : Int) < (n : Int)) = true := decide_eq_true i1
        have d0' : decide (j < n) = true := decide_eq_true hlt
        have i2 : (0 : Int) ≤ (i : Int) := by omega
        have i3 : (i : Int) < (n : Int) := by have := D.out.lt; omega
        have u1 : (j : Int) + 1 < 10000 := by have := HN.out; omega
        have u2 : (i : Int) + 1 < 10000 := by have := D.out.lt; have := HN.out; omega
        have HLT := Lib.hid hlt
        obtain ⟨_, o1, e1, _, x1⟩ := ccs_ptr (ownE_slE HO.out) (by rw [D.out.len]; omega)
        injection e1 with e1
        injection e1 with e1 e2
        subst e1 e2
        have y1 := ccs_ld x1 (i := j) (by rw [D.out.len]; exact hlt)
        rw [D.out.hi j (Nat.le_refl _) hlt, Nat.zero_add] at y1
        have HSk : Hid (noLater fin (ckAt f j) = true → Dl fin f l n i (j + 1)) := D.out.skip HL.out hlt
        have HSy : Hid (noLater fin (ckAt f j) = false → Dl fin f (l.set i (ckAt f j)) n (i + 1) (j + 1)) := D.out.stay HL.out hlt
        have HQ := Lib.hid (HP.out (ckAt f j))
        obtain ⟨r, hr⟩ : ∃ r, r = noLater fin (ckAt f j) := ⟨_, rfl⟩
        rw [← hr] at HSk HSy HQ
        obtain ⟨C, hC⟩ : ∃ C, C = ckAt f j := ⟨_, rfl⟩
        rw [← hC] at y1 HQ HSy
        clear x1 hlt hr hC
        go_upto_region 8 with fail
        obtain ⟨V, hV⟩ : ∃ V, V = wr.alloc (.cells (cc C) 32) := ⟨_, rfl⟩
        rw [← hV]
        have g5 : Below wr.heap.size wr V := by rw [hV]; exact below1
        have X5 : Hid (V.heap[wr.heap.size]? = some (.cells (cc C) 32 (0, 0))) := by show _ = _; rw [hV]; exact heap_alloc_last wr _
        replace HO := Lib.hid (ownE_keep g5 HO.out)
        replace G1 : Hid (Below B w V) := G1.out.trans (g5.mono HSw.out)
        have HSv : Hid (B ≤ V.heap.size) := Nat.le_trans HBs.out G1.out.size
        obtain ⟨Q, hQ⟩ : ∃ Q, Q = wr.heap.size := ⟨_, rfl⟩
        rw [← hQ] at X5 ⊢
        clear hV y1 hQ g5
        have z2 := (ck_v X5.out).a
        go_wp2_with fail
        refine (HQ.out V G1.out).mono ?_
        rintro e V1 ⟨rfl, gg⟩
        replace HO := Lib.hid (ownE_keep gg HO.out)
        replace G1 : Hid (Below B w V1) := G1.out.trans (gg.mono HSv.out)
        replace X5 := Lib.hid (blk_keep gg X5.out)
        clear gg z2
        cases r
        · have z2 := (ck_v X5.out).a
          have z3 := ownE_wr HO.out D.out.len (i := i) (by have := D.out.lt; have := HLT.out; omega)
          have z3' : wrA V1 (.pointer (some ⟨g, i * 33, none⟩)) 33 = true := by rw [show i * 33 = 0 + i * Ecc.n from (Nat.zero_add _).symm]; exact z3
          clear z3
          go_wp2_with fail
          go_roundw
          case rel => exact ⟨i + 1, j + 1, l.set i C, by go_num, by go_num, (by have := HSy.out; simpa using this), ownE_put HO.out D.out.len (by have := D.out.lt; have := HLT.out; omega) C (cc_list C), below_stA G1.out HGb.out⟩
          case measure => simp [intOf]; have := HLT.out; omega
        · go_wp2_with fail
          go_roundw
          case rel => exact ⟨i, j + 1, l, rfl, by go_num, (by have := HSk.out; simpa using this), HO.out, G1.out⟩
          case measure => simp [intOf]; have := HLT.out; omega
      · have HJ : Hid (j = n) := by show j = n; have := D.out.le; omega
        have d0 : decide ((j : Int) < (n : Int)) = false := decide_eq_false (by omega)
        have d0' : decide (j < n) = false := decide_eq_false hlt
        have HIl : Hid (i < n) := by show i < n; have := D.out.lt; have := D.out.le; omega
        have HF : Hid (l.take i = f.filter fun c => !noLater fin c) := by
          show _ = _
          rw [D.out.lo, HJ.out, List.take_of_length_le (by rw [HL.out]; exact Nat.le_refl _)]
        have c1 := cut_out g n c i HIl.out HCp.out
        have c2 := cut_in g n c i (Nat.le_of_lt HIl.out) HCp.out (by have := HIl.out; have := HCp.out; omega)
        obtain ⟨vs, hvs, hcl⟩ := run_clear_cc wr g i (n - i) (c - i) (by have := HIl.out; omega) (fun x hx => by
          have h1 := own_there HO.out D.out.len (i * 33 + x) (by have := HIl.out; have e : (n - i) * 33 = n * 33 - i * 33 := Nat.sub_mul _ _ _; rw [e] at hx; omega)
          rw [Nat.zero_add] at h1
          exact h1)
        obtain ⟨hS, hBw⟩ := clear_keep (vs := vs) HO.out D.out.len (Nat.le_of_lt HIl.out)
        have S := Lib.hid hS
        have G2 : Hid (Below B w (wr.setCells g (i * 33) vs)) := G1.out.trans hBw
        generalize wr.setCells g (i * 33) vs = wc at *
        clear hlt hS hBw hvs
        go_wp2_with fail
        go_ret
        exact ⟨_, rfl, by rw [← HF.out]; exact S.out, G2.out⟩
theorem delFunc (bf B : Nat) (v : Value) (fin : Ck) (f : List Ck) (w : World) (h : OwnE Ecc w B v f) (hn : f.length ≤ 1000) (hB : B ≤ w.heap.size) (hbf : bf < B) (hb : w.heap[bf]? = some (.cells (cc fin) 32 (0, 0))) :
    Calls Try.prog 43 #[v, .func (.func 42) #[] #[.pointer (some ⟨bf, 0, none⟩)]] w (DelIs fin f B w) := by
  rcases h.2 with ⟨rfl, h0⟩ | ⟨g, cap, cur, rfl, _⟩
  · have e : f = [] := List.length_eq_zero_iff.1 h0
    subst e
    have HI := Lib.hid (idxFunc_n bf fin none 0 0 [] w (slE_nil _ _ _ _) rfl (by omega) hb)
    clear h h0 hn hbf hb
    have HBs := Lib.hid hB
    go_enter Try.func43, Try.ntmps43
    go_wp2_with fail
    refine HI.out.mono ?_
    rintro e w1 ⟨g1, ⟨rfl, hf⟩ | ⟨k, rfl, hk, hd, hf⟩⟩
    · have G1 : Hid (Below B w w1) := g1.mono HBs.out
      clear hf g1 HI
      go_wp2_with fail
      go_ret
      exact ⟨_, rfl, slE_nil _ _ _ _, G1.out⟩
    · exact absurd hk (Nat.not_lt_zero _)
  · exact delFunc_n bf B g _ cap fin f w h rfl hn hB hbf hb
theorem enters_delFunc : ∀ args w, (callFunc 43 args).run Try.prog w = .ok (.enter 43 args) w := entersE Try.func43 (by kernel_rfl) (by kernel_rfl)
end Go.Proofs.Ytlhnjaeocoafnaa
