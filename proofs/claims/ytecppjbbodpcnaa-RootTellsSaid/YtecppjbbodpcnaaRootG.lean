/-
  Package root: worth and Of, walked.
-/
import Derived.Test.YtecppjbbodpcnaaRootF
import Derived.Lib.OthersKept
namespace Go.Proofs.Ytecppjbbodpcnaa
open Go.RowKit

/-- The digits, in their order. -/
def digitsS : ByteArray := ⟨#[48, 49, 50, 51, 52, 53, 54, 55, 56, 57, 97, 98, 99, 100, 101, 102]⟩
theorem digits_size : digitsS.size = 16 := rfl
theorem digits_get (p : Nat) (h : p < 16) : ∃ h' : p < digitsS.size, (digitsS[p]'h') = dg p ∧ (dg p).toNat < 128 := by
  have hp : p = 0 ∨ p = 1 ∨ p = 2 ∨ p = 3 ∨ p = 4 ∨ p = 5 ∨ p = 6 ∨ p = 7 ∨ p = 8 ∨ p = 9 ∨ p = 10 ∨ p = 11 ∨ p = 12 ∨ p = 13 ∨ p = 14 ∨ p = 15 := by omega
  rcases hp with rfl | rfl | rfl | rfl | rfl | rfl | rfl | rfl | rfl | rfl | rfl | rfl | rfl | rfl | rfl | rfl
  all_goals exact ⟨by decide, by rfl, by decide⟩
theorem digits_decode (p : Nat) (h : p < 16) : Utf8.decode digitsS p = ((dg p).toNat, 1) := by
  obtain ⟨h', h1, h2⟩ := digits_get p h
  rw [decode_ascii digitsS p h' (by rw [h1]; exact h2), h1]
theorem dgI_nat (p : Nat) : ((dg p).toNat : Int) = dgI p := rfl

theorem dg_inj : ∀ p q : Fin 16, dg p.val = dg q.val → p = q := by decide
theorem dgI_ne (p q : Nat) (hp : p < 16) (hq : q < 16) (h : p ≠ q) : dgI p ≠ dgI q := fun e => h (by
  have e' : dg p = dg q := UInt8.toNat_inj.1 (by have e2 : ((dg p).toNat : Int) = (dg q).toNat := e; omega)
  have := dg_inj ⟨p, hp⟩ ⟨q, hq⟩ e'
  simpa using this)
theorem next_digit (w : World) (q : Nat) (hq : q < 16) (ty : TypeId) : (Instr.next (.pointer (some ⟨w.heap.size, 0, none⟩)) true ty).run Try.prog (w.iter digitsS q) = .ok (.tuple #[.bool true, .int .i64 (q : Int), .int .i32 (dgI q)]) (w.iter digitsS (q + 1)) := by
  have h := run_next_any (P := Try.prog) w digitsS q ty (by rw [digits_size]; exact hq)
  rw [digits_decode q hq] at h
  exact h

set_option maxRecDepth 1000000 in
set_option maxHeartbeats 400000 in
theorem worth_yes (p : Nat) (hp : p < 16) (w : World) :
    Calls Try.prog 19 #[.int .i32 (dgI p)] w fun e w' => e = .returned (.tuple #[.int .u8 (p : Int), .bool true]) ∧ Below w.heap.size w w' := by
  go_enter Try.func19, Try.ntmps19
  go_wp2
  go_loopw [7] (fun _ wr => ∃ q : Nat, q ≤ p ∧ wr = w.iter digitsS q) (fun _ wr => 16 - wr.iterPos w.heap.size)
  case atStart => exact ⟨0, Nat.zero_le _, rfl⟩
  case round =>
    obtain ⟨q, hq, rfl⟩ := hrel
    have hnx := fun ty => next_digit w q (by omega) ty
    by_cases e : p = q
    · subst e
      have hw : IntKind.u8.wrap (p : Int) = p := by simp [IntKind.wrap, IntKind.bits, IntKind.signed]; omega
      go_wp2
      go_ret2
      exact ⟨rfl, (Below.refl _ _).alloc (Nat.le_refl _) _⟩
    · have hne : (dgI p == dgI q) = false := beq_eq_false_iff_ne.2 (dgI_ne p q hp (by omega) e)
      go_wp2
      go_roundw
      case rel => exact ⟨q + 1, by omega, rfl⟩
      case measure => simp; omega

set_option maxRecDepth 1000000 in
set_option maxHeartbeats 400000 in
theorem worth_no (n : Int) (hn : ∀ q : Nat, q < 16 → n ≠ dgI q) (w : World) :
    Calls Try.prog 19 #[.int .i32 n] w fun e w' => e = .returned (.tuple #[.int .u8 0, .bool false]) ∧ Below w.heap.size w w' := by
  have HN := Lib.hid hn; clear hn
  go_enter Try.func19, Try.ntmps19
  go_wp2
  go_loopw [7] (fun _ wr => ∃ q : Nat, q ≤ 16 ∧ wr = w.iter digitsS q) (fun _ wr => 16 - wr.iterPos w.heap.size)
  case atStart => exact ⟨0, Nat.zero_le _, rfl⟩
  case round =>
    obtain ⟨q, hq, rfl⟩ := hrel
    by_cases e : q < 16
    · have hnx := fun ty => next_digit w q e ty
      have hne : (n == dgI q) = false := beq_eq_false_iff_ne.2 (HN.out q e)
      go_wp2
      go_roundw
      case rel => exact ⟨q + 1, by omega, rfl⟩
      case measure => simp; omega
    · have hnx : ∀ ty, (Instr.next (.pointer (some ⟨w.heap.size, 0, none⟩)) true ty).run Try.prog (w.iter digitsS q) = _ := fun ty => run_next_end w digitsS q ty (by rw [digits_size]; exact e)
      go_wp2
      go_ret2
      exact ⟨rfl, (Below.refl _ _).alloc (Nat.le_refl _) _⟩

/-! ### What a text is -/
def vOf (c : UInt8) : Option Nat := (List.range 16).find? fun p => dg p == c
def valD (c : UInt8) : Nat := (vOf c).getD 0
theorem vOf_some {c : UInt8} {p : Nat} (h : vOf c = some p) : p < 16 ∧ dg p = c := by
  unfold vOf at h
  exact ⟨List.mem_range.1 (List.mem_of_find?_eq_some h), by simpa using List.find?_some h⟩
theorem vOf_none {c : UInt8} (h : vOf c = none) (p : Nat) (hp : p < 16) : dg p ≠ c := by
  unfold vOf at h
  have := List.find?_eq_none.1 h p (List.mem_range.2 hp)
  simpa using this
theorem vOf_dg (p : Nat) (hp : p < 16) : vOf (dg p) = some p := by
  cases h : vOf (dg p) with
  | none => exact absurd rfl (vOf_none h p hp)
  | some q =>
    obtain ⟨h1, h2⟩ := vOf_some h
    have := dg_inj ⟨q, h1⟩ ⟨p, hp⟩ h2
    simp at this
    rw [this]
theorem valD_lt (c : UInt8) : valD c < 16 := by
  unfold valD
  cases h : vOf c with
  | none => decide
  | some p => exact (vOf_some h).1
/-- The byte at a place behind k digits. -/
def pByte (l : List UInt8) (k i : Nat) : Nat := if 2 * i + 1 < k then 16 * valD (l.getD (2 * i) 0) + valD (l.getD (2 * i + 1) 0) else if 2 * i < k then valD (l.getD (2 * i) 0) else 0
def packR (l : List UInt8) (k : Nat) : Rt := Vector.ofFn fun i : Fin 32 => UInt8.ofNat (pByte l k i.val)
def hexes (l : List UInt8) (k : Nat) : Prop := ∀ j, j < k → (vOf (l.getD j 0)).isSome = true
def ofL (l : List UInt8) : Option Rt := if l.length = 64 ∧ (l.all fun c => (vOf c).isSome) = true then some (packR l 64) else none
def ofR (l : List UInt8) : Rt := (ofL l).getD zr
def ofB (l : List UInt8) : Bool := (ofL l).isSome
theorem pByte_lt (l : List UInt8) (k i : Nat) : pByte l k i < 256 := by
  unfold pByte
  have a := valD_lt (l.getD (2 * i) 0)
  have b := valD_lt (l.getD (2 * i + 1) 0)
  split
  · omega
  · split <;> omega
theorem packR_at (l : List UInt8) (k i : Nat) (hi : i < 32) : at8 (packR l k) i = (pByte l k i : Int) := by
  rw [at8_get _ _ hi]
  have := pByte_lt l k i
  simp [packR, UInt8.toNat_ofNat', Nat.mod_eq_of_lt this]
theorem packR_zero (l : List UInt8) : packR l 0 = zr := by
  apply at8_ext
  intro i hi
  rw [packR_at l 0 i hi]
  rw [at8_get zr i hi]
  unfold pByte
  rw [if_neg (by omega), if_neg (by omega)]
  have e : zr.toList[i]'(by simp; exact hi) = 0 := by
    have : zr.toList = List.replicate 32 0 := by unfold zr; exact Vector.toList_replicate
    rw [List.getElem_of_eq this, List.getElem_replicate]
  rw [e]; rfl
theorem rc_set (r r' : Rt) (k : Nat) (x : Int) (h1 : at8 r' k = x) (h2 : ∀ i, i < 32 → i ≠ k → at8 r' i = at8 r i) : (rc r).setIfInBounds k (.int .u8 x) = rc r' := by
  apply Array.ext_getElem?
  intro i
  rw [Array.getElem?_setIfInBounds]
  by_cases hi : i < 32
  · by_cases e : k = i
    · subst e
      rw [if_pos rfl, if_pos (by rw [rc_size]; exact hi), rc_get r' k hi, h1]
    · rw [if_neg e, rc_get r i hi, rc_get r' i hi, h2 i hi (Ne.symm e)]
  · rw [Array.getElem?_eq_none (xs := rc r') (by rw [rc_size]; omega)]
    split
    · rw [if_neg (by rw [rc_size]; omega)]
    · rw [Array.getElem?_eq_none (by rw [rc_size]; omega)]
/-- One digit more. -/
theorem packR_step (l : List UInt8) (k : Nat) (hk : k < 64) (x : Int) (hx : x = 16 * (at8 (packR l k) (k / 2) % 16) + valD (l.getD k 0)) :
    (rc (packR l k)).setIfInBounds (k / 2) (.int .u8 x) = rc (packR l (k + 1)) := by
  have b := valD_lt (l.getD (2 * (k / 2)) 0)
  refine rc_set _ _ _ _ ?_ fun i hi hne => ?_
  · rw [packR_at _ _ _ (by omega)] at hx ⊢
    rw [hx]
    unfold pByte
    by_cases e : k % 2 = 0
    · rw [if_neg (by omega), if_pos (by omega), if_neg (by omega), if_neg (by omega), show 2 * (k / 2) = k by omega]
      omega
    · rw [if_pos (by omega), if_neg (by omega), if_pos (by omega)]
      rw [show 2 * (k / 2) + 1 = k by omega]
      omega
  · rw [packR_at _ _ _ hi, packR_at _ _ _ hi]
    unfold pByte
    by_cases e : 2 * i + 1 < k
    · rw [if_pos (by omega), if_pos e]
    · rw [if_neg (by omega), if_neg e, if_neg (by omega), if_neg (by omega)]
theorem ofL_none_len {l : List UInt8} (h : l.length ≠ 64) : ofL l = none := by
  unfold ofL; rw [if_neg (fun x => h x.1)]
theorem ofL_none_at {l : List UInt8} (k : Nat) (hk : k < l.length) (h : vOf (l.getD k 0) = none) : ofL l = none := by
  unfold ofL
  rw [if_neg]
  rintro ⟨_, ha⟩
  have := List.all_eq_true.1 ha (l[k]) (List.getElem_mem hk)
  rw [getD_in _ hk] at h
  rw [h] at this
  simp at this
theorem ofL_some {l : List UInt8} (hl : l.length = 64) (h : hexes l 64) : ofL l = some (packR l 64) := by
  have ha : (l.all fun c => (vOf c).isSome) = true := by
    rw [List.all_eq_true]
    intro c hc
    obtain ⟨j, hj, rfl⟩ := List.getElem_of_mem hc
    have := h j (by omega)
    rw [getD_in _ hj] at this
    exact this
  unfold ofL
  rw [if_pos ⟨hl, ha⟩]

theorem results_root (fn : Func) (h : fn.results = #[.cell 2 23, .tmp 3]) (tmps : Array Value) (w : World) (b : Nat) (c : Array Value) (v : Value) (hp : tmps.getD 2 undef = .pointer (some ⟨b, 0, none⟩)) (hv : tmps.getD 3 undef = v) (hl : ldA w (.pointer (some ⟨b, 0, none⟩)) 32 = some c) :
    (results fn tmps).run Try.prog w = .ok (.tuple #[.agg c, v]) w := by
  have hp' : tmps[2]?.getD undef = .pointer (some ⟨b, 0, none⟩) := by simpa using hp
  have hv' : tmps[3]?.getD undef = v := by simpa using hv
  simp [results, h, hp', hv', asAddr, run_loadVar_agg Try.isAgg23 Try.sizeOf23 w b 0 c hl]
/-- What Of answers. -/
def OfIs (l : List UInt8) (w : World) (e : Ending) (w' : World) : Prop := e = .returned (.tuple #[.agg (rc (ofR l)), .bool (ofB l)]) ∧ Below w.heap.size w w'
theorem ofIs_no {l : List UInt8} {w w' : World} (h : ofL l = none) (hb : Below w.heap.size w w') : OfIs l w (.returned (.tuple #[.agg (rc zr), .bool false])) w' := by
  refine ⟨?_, hb⟩
  unfold ofR ofB
  rw [h]; rfl
theorem ofIs_yes {l : List UInt8} {r : Rt} {w w' : World} (h : ofL l = some r) (hb : Below w.heap.size w w') : OfIs l w (.returned (.tuple #[.agg (rc r), .bool true])) w' := by
  refine ⟨?_, hb⟩
  unfold ofR ofB
  rw [h]; rfl

set_option maxRecDepth 1000000 in
set_option maxHeartbeats 1000000 in
theorem of_short (s : ByteArray) (w : World) (h : s.size ≠ 64) :
    Calls Try.prog 10 #[.string s] w (OfIs s.data.toList w) := by
  have hne : ((s.size : Int) != 64) = true := by simp; omega
  have hno : ofL s.data.toList = none := ofL_none_len (by simpa using h)
  have HNO := Lib.hid hno; clear hno
  go_enter Try.func10, Try.ntmps10
  go_wp2
  exact bodyPost_ret (results_root _ rfl _ _ _ (rc zr) _ rfl rfl (by go_simp)) rfl (ofIs_no HNO.out ((Below.refl _ _).alloc (Nat.le_refl _) _))

theorem of_h0 (w : World) (s : ByteArray) : (((w.alloc (.cells (rc zr) 23)).alloc (.cells (rc zr) 23)).iter s 0).heap[w.heap.size]? = some (.cells (rc zr) 23 (0, 0)) := by
  unfold World.iter
  rw [heap_alloc_old _ _ (by simp; omega), heap_alloc2_old]
theorem of_h1 (w : World) (s : ByteArray) : (((w.alloc (.cells (rc zr) 23)).alloc (.cells (rc zr) 23)).iter s 0).heap[w.heap.size + 1]? = some (.cells (rc zr) 23 (0, 0)) := by
  unfold World.iter
  rw [heap_alloc_old _ _ (by simp), heap_alloc2_new]
theorem of_h2 (w : World) (s : ByteArray) : (((w.alloc (.cells (rc zr) 23)).alloc (.cells (rc zr) 23)).iter s 0).heap[w.heap.size + 1 + 1]? = some (.stringIter s 0) := by
  have h := World.iter_heap ((w.alloc (.cells (rc zr) 23)).alloc (.cells (rc zr) 23)) s 0
  simpa using h
theorem getD_data (s : ByteArray) (k : Nat) (h : k < s.size) : s.data.toList.getD k 0 = s[k]'h := by
  rw [getD_in _ (by simpa using h)]
  rfl
theorem next_hex (wr : World) (b : Nat) (s : ByteArray) (k : Nat) (ty : TypeId) (h2 : wr.heap[b]? = some (.stringIter s k)) (hk : k < s.size) (d : Nat) (hd : d < 16) (hg : dg d = s.data.toList.getD k 0) :
    (Instr.next (.pointer (some ⟨b, 0, none⟩)) true ty).run Try.prog wr = .ok (.tuple #[.bool true, .int .i64 (k : Int), .int .i32 (dgI d)]) (wr.iterAt b s (k + 1)) := by
  obtain ⟨_, _, h3⟩ := digits_get d hd
  rw [getD_data s k hk] at hg
  rw [Lib.run_next_ascii_at wr b s k ty h2 hk (by rw [← hg]; exact h3), ← hg]
  rfl
theorem or_nat : ∀ a d : Fin 16, bits .or .u8 ((16 * a.val : Nat) : Int) ((d.val : Nat) : Int) = ((16 * a.val + d.val : Nat) : Int) := by decide +kernel
theorem or_digit (x : Int) (d : Nat) (hx : 0 ≤ x) (hd : d < 16) : bits .or .u8 (x * 16 % 256) (d : Int) = 16 * (x % 16) + d := by
  obtain ⟨n, rfl⟩ := Int.eq_ofNat_of_zero_le hx
  have h := or_nat ⟨n % 16, by omega⟩ ⟨d, hd⟩
  have e1 : ((16 * (n % 16) : Nat) : Int) = (n : Int) * 16 % 256 := by omega
  have e2 : ((16 * (n % 16) + d : Nat) : Int) = 16 * ((n : Int) % 16) + d := by omega
  simp only [e1, e2] at h
  exact h
theorem rune_no (s : ByteArray) (k : Nat) (h : k < s.size) (hv : vOf (s.data.toList.getD k 0) = none) (q : Nat) (hq : q < 16) : ((Utf8.decode s k).1 : Int) ≠ dgI q := by
  obtain ⟨_, _, h3⟩ := digits_get q hq
  rw [getD_data s k h] at hv
  have hne := vOf_none hv q hq
  have hd : dgI q = ((dg q).toNat : Int) := rfl
  rw [hd]
  by_cases ha : (s[k]'h).toNat < 128
  · rw [decode_ascii s k h ha]
    intro e
    exact hne (UInt8.toNat_inj.1 (by simp at e; omega))
  · have := (decode_high s k h (by omega)).1
    omega

set_option maxRecDepth 1000000 in
set_option maxHeartbeats 1000000 in
theorem of_long (s : ByteArray) (w : World) (h : s.size = 64) :
    Calls Try.prog 10 #[.string s] w (OfIs s.data.toList w) := by
  have hne : ((s.size : Int) != 64) = false := by simp; omega
  have hle : s.size ≤ 64 := by omega
  have hge : 64 ≤ s.size := by omega
  have H := Lib.hid h; clear h
  go_enter Try.func10, Try.ntmps10
  go_wp2
  go_loopw [15] (fun _ wr => ∃ k : Nat, k ≤ 64 ∧ hexes s.data.toList k ∧ wr.heap[w.heap.size]? = some (.cells (rc zr) 23 (0, 0)) ∧ wr.heap[w.heap.size + 1]? = some (.cells (rc (packR s.data.toList k)) 23 (0, 0)) ∧ wr.heap[w.heap.size + 1 + 1]? = some (.stringIter s k) ∧ Below w.heap.size w wr) (fun _ wr => 64 - wr.iterPos (w.heap.size + 1 + 1))
  case atStart => exact ⟨0, Nat.zero_le _, fun j hj => absurd hj (by omega), of_h0 _ _, by rw [packR_zero]; exact of_h1 _ _, of_h2 _ _, (((Below.refl _ _).alloc (Nat.le_refl _) _).alloc (by simp) _).alloc (by simp; omega) _⟩
  case round =>
    obtain ⟨k, hk, hx, h0, h1, h2, hnx⟩ := hrel
    have HX := Lib.hid hx; clear hx
    have hmu : wr.iterPos (w.heap.size + 1 + 1) = k := by simp [World.iterPos, h2]
    have HMU := Lib.hid hmu; clear hmu
    by_cases hlt : k < 64
    · have hks : k < s.size := by omega
      cases hv : vOf (s.data.toList.getD k 0) with
      | none =>
        have hno := ofL_none_at (l := s.data.toList) k (by simpa using hks) hv
        have HNO := Lib.hid hno; clear hno
        have hn : ∀ ty, (Instr.next (.pointer (some ⟨w.heap.size + 1 + 1, 0, none⟩)) true ty).run Try.prog wr = _ := fun ty => Lib.run_next_any_at wr (w.heap.size + 1 + 1) s k ty h2 hks
        have hw := fun W => worth_no ((Utf8.decode s k).1 : Int) (rune_no s k hks hv) W
        have h0' := (Lib.iterAt_other wr (w.heap.size + 1 + 1) w.heap.size s (k + (Utf8.decode s k).2) (by omega)).trans h0
        have hnx1 := Lib.below_iterAt hnx (k := w.heap.size + 1 + 1) (by omega) s (k + (Utf8.decode s k).2)
        clear h0 h1 h2 hnx hv
        generalize wr.iterAt (w.heap.size + 1 + 1) s (k + (Utf8.decode s k).2) = W1 at *
        generalize ((Utf8.decode s k).1 : Int) = n at *
        go_wp2_with fail
        refine (hw _).mono ?_
        rintro e W2 ⟨rfl, hb2⟩
        have g0 := (hb2.block w.heap.size (by have := hnx1.size; have := (Array.getElem?_eq_some_iff.1 h0').1; omega)).trans h0'
        have gw := wrA_block g0 (rc_size zr)
        have gl := ldA_stA_same gw (rc_size zr)
        have GB := Lib.hid (below_stA (x := .agg (rc zr)) (o := 0) (hnx1.trans (hb2.mono hnx1.size)) (Nat.le_refl _))
        clear g0 h0' hnx1 hb2
        go_wp2
        exact bodyPost_ret (results_root _ rfl _ _ _ (rc zr) _ rfl rfl gl) rfl (ofIs_no HNO.out GB.out)
      | some d =>
        have hd16 := (vOf_some hv).1
        have hdg := (vOf_some hv).2
        have hn : ∀ ty, (Instr.next (.pointer (some ⟨w.heap.size + 1 + 1, 0, none⟩)) true ty).run Try.prog wr = _ := fun ty => next_hex wr _ s k ty h2 hks d hd16 hdg
        have hw := fun W => worth_yes d hd16 W
        have h0' := (Lib.iterAt_other wr (w.heap.size + 1 + 1) w.heap.size s (k + 1) (by omega)).trans h0
        have h1' := (Lib.iterAt_other wr (w.heap.size + 1 + 1) (w.heap.size + 1) s (k + 1) (by omega)).trans h1
        have h2' := Lib.iterAt_heap wr (w.heap.size + 1 + 1) s k (k + 1) h2
        have hnx1 := Lib.below_iterAt hnx (k := w.heap.size + 1 + 1) (by omega) s (k + 1)
        clear h0 h1 h2 hnx
        generalize wr.iterAt (w.heap.size + 1 + 1) s (k + 1) = W1 at *
        have HD := Lib.hid hdg; clear hdg
        have HV := Lib.hid hv; clear hv
        go_wp2_with fail
        refine (hw _).mono ?_
        rintro e W2 ⟨rfl, hb2⟩
        have hlt2 := (Array.getElem?_eq_some_iff.1 h2').1
        have g0 := (hb2.block w.heap.size (by omega)).trans h0'
        have g1 := (hb2.block (w.heap.size + 1) (by omega)).trans h1'
        have g2 := (hb2.block (w.heap.size + 1 + 1) (by omega)).trans h2'
        have gb := hnx1.trans (hb2.mono hnx1.size)
        clear h0' h1' h2' hb2
        have gc := (cell_of_row W2 (w.heap.size + 1) (k / 2) _ _ _ g1).trans (rc_get _ (k / 2) (by omega))
        have gf := frozen_of_row W2 (w.heap.size + 1) (k / 2) _ _ g1
        have ge := or_digit (at8 (packR s.data.toList k) (k / 2)) d (at8_bd _ _).1 hd16
        have hval : valD (s.data.toList.getD k 0) = d := by unfold valD; rw [HV.out]; rfl
        have gs := heap_setCell_same W2 (w.heap.size + 1) (k / 2) _ _ (.int .u8 (bits .or .u8 (at8 (packR s.data.toList k) (k / 2) * 16 % 256) d)) g1
        rw [packR_step s.data.toList k hlt _ (by rw [hval]; exact ge)] at gs
        have GS := Lib.hid gs
        clear gs ge hval
        go_wp2_with fail
        go_roundw
        case rel =>
          refine ⟨k + 1, by omega, fun j hj => ?_, ?_, GS.out, ?_, gb.setCell (by show w.heap.size ≤ w.heap.size + 1; omega) _⟩
          · by_cases e : j = k
            · rw [e, HV.out]; rfl
            · exact HX.out j (by omega)
          · rw [heap_setCell_other _ _ _ _ (by show w.heap.size ≠ w.heap.size + 1; omega)]; exact g0
          · rw [heap_setCell_other _ _ _ _ (by show w.heap.size + 1 + 1 ≠ w.heap.size + 1; omega)]; exact g2
        case measure =>
          rw [HMU.out]
          have hm2 : (W2.setCell ⟨w.heap.size + 1, k / 2, none⟩ (.int .u8 (bits .or .u8 (at8 (packR s.data.toList k) (k / 2) * 16 % 256) d))).iterPos (w.heap.size + 1 + 1) = k + 1 := by
            unfold World.iterPos
            rw [heap_setCell_other _ _ _ _ (by show w.heap.size + 1 + 1 ≠ w.heap.size + 1; omega), g2]
          rw [hm2]
          omega
    · obtain rfl : k = 64 := by omega
      have hn : ∀ ty, (Instr.next (.pointer (some ⟨w.heap.size + 1 + 1, 0, none⟩)) true ty).run Try.prog wr = _ := fun ty => Lib.run_next_end_at wr (w.heap.size + 1 + 1) s 64 ty h2 (by omega)
      have hyes := ofL_some (l := s.data.toList) (by have := H.out; simpa using this) HX.out
      have HY := Lib.hid hyes; clear hyes
      have gl1 := ldA_block h1 (rc_size _)
      have gw := wrA_block h0 (rc_size zr)
      have gl := ldA_stA_same (c := rc (packR s.data.toList 64)) gw (rc_size _)
      have GB := Lib.hid (below_stA (x := .agg (rc (packR s.data.toList 64))) (o := 0) hnx (Nat.le_refl _))
      clear h0 h1 h2 hnx
      go_wp2
      exact bodyPost_ret (results_root _ rfl _ _ _ _ _ rfl rfl gl) rfl (ofIs_yes HY.out GB.out)

theorem of_any (s : ByteArray) (w : World) : Calls Try.prog 10 #[.string s] w (OfIs s.data.toList w) := by
  by_cases h : s.size = 64
  · exact of_long s w h
  · exact of_short s w h
end Go.Proofs.Ytecppjbbodpcnaa
