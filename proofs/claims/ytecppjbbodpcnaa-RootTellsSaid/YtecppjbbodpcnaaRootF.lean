/-
  Package root: Text, walked.
-/
import Derived.Deep.RegionLaw
import Derived.Test.YtecppjbbodpcnaaRootC
import Derived.Laws.BytesArg
namespace Go.Proofs.Ytecppjbbodpcnaa
open Go.RowKit

def dg (n : Nat) : UInt8 := if n < 10 then UInt8.ofNat (48 + n) else UInt8.ofNat (87 + n)
def dig2 (b : UInt8) : List UInt8 := [dg (b.toNat / 16), dg (b.toNat % 16)]
def textL (l : List UInt8) : List UInt8 := l.flatMap dig2
def b8 (l : List UInt8) : List Value := l.map fun b => .int .u8 (b.toNat : Int)
theorem Try.infoByte : (Try.prog.info? 5).map (fun i => (i.zero, i.size, i.bytes)) = some (some (.int .u8 0), 1, 1) := by kernel_rfl
theorem makeBytes : ∀ w : World, (Instr.makeSlice 43 (.int .i64 0) (.int .i64 64)).run Try.prog w = .ok (.slice (some ⟨w.heap.size, 0, none⟩) 0 64) (w.alloc (.cells (Array.replicate 64 (.int .u8 0)) 5)) := fun _ => by kernel_rfl
def zero64 : Array Value := Array.replicate 64 (.int .u8 0)

theorem step_append_own {P : Program} (w : World) {ops : Array Oper} {o : Oper} {a : Act} {K : Act → World → Prop} {Q : Exit → Act → World → Prop} {E : Prop} (hgd : o.guard = none) (s x : Operand) (t : TypeId)
    (ho : o.op = .call { callee := .builtin .append, args := #[s, x], argTypes := #[t, t] })
    (base : Nat) (e : TypeId) (i : TypeInfo) (z : Value) (size bytes : Nat) (ht : P.underlying t = some (.slice e)) (hi : P.info? e = some i) (hz : i.zero = some z)
    (hsize : i.size = size) (hby : i.bytes = bytes) (hzs : z.cells.size = size) (hsz : 0 < size)
    (v : Value) (n : Nat) (xs : List Value) (hs : a.eval s = v) (hown : w.ownsRow base e size v n xs)
    (ad : Addr) (m c : Nat) (news : List Value) (hx : a.eval x = .slice (some ad) m c) (hl : news.length = m * size) (hnews : ∀ j u, news[j]? = some u → w.cell? (ad.add j) = some u) (h1 : ∀ u ∈ news, u.oneCell' = true)
    (h63 : n + m ≤ maxLen) (hbytes : (n + m) * bytes ≤ 140737488355328) (hbase : base ≤ w.heap.size)
    (h : ∀ v' w', w'.ownsRow base e size v' (n + m) (xs ++ news) → w.grownBy w' v.ownBlock → (v' = .slice none 0 0 ↔ v = .slice none 0 0 ∧ m = 0) → K (a.put o.dst v') w') :
    if Region.wanted o (yielded ops a.tmps) = true then Oper.wp P o a w K Q else E := by
  have hw : Region.wanted o (yielded ops a.tmps) = true := by simp [Region.wanted, hgd]
  rw [if_pos hw]
  exact wp_append_own w s x t ho base e i z size bytes ht hi hz hsize hby hzs hsz v n xs hs hown ad m c news hx hl hnews h1 h63 hbytes hbase h
theorem cell_row_new' (w : World) (c : List Value) (t : TypeId) : ∀ (j : Nat) (u : Value), c[j]? = some u → (w.alloc (.cells c.toArray t)).cell? ((⟨w.heap.size, 0, none⟩ : Addr).add j) = some u := fun j u h => by
  rw [Addr.add_mid, Nat.zero_add, cell_of_row _ _ j c.toArray t _ (heap_alloc_last w _)]
  simpa using h
theorem index_rc (r : Rt) (k : Nat) (hk : k < 32) (w : World) : (Instr.index 23 (.agg (rc r)) (.int .i64 (k : Int))).run Try.prog w = .ok (.int .u8 (at8 r k)) w := by
  have u := Try.underlying23
  have z := Try.sizeOf5
  have a := Try.isAgg5
  have g := rc_get r k hk
  unfold Instr.index
  simp [asIntOf, run_underlying u, z, part, a, g]
  intro h; omega
def dgI (x : Int) : Int := ((dg x.toNat).toNat : Int)
theorem digit_at (x : Int) (h0 : 0 ≤ x) (h1 : x < 16) (w : World) : (Instr.index 9 (.string ⟨#[48, 49, 50, 51, 52, 53, 54, 55, 56, 57, 97, 98, 99, 100, 101, 102]⟩) (.int .u8 x)).run Try.prog w = .ok (.int .u8 (dgI x)) w := by
  obtain ⟨n, rfl⟩ := Int.eq_ofNat_of_zero_le h0
  have hn : n < 16 := by omega
  have h : n = 0 ∨ n = 1 ∨ n = 2 ∨ n = 3 ∨ n = 4 ∨ n = 5 ∨ n = 6 ∨ n = 7 ∨ n = 8 ∨ n = 9 ∨ n = 10 ∨ n = 11 ∨ n = 12 ∨ n = 13 ∨ n = 14 ∨ n = 15 := by omega
  clear h0 h1 hn
  rcases h with rfl | rfl | rfl | rfl | rfl | rfl | rfl | rfl | rfl | rfl | rfl | rfl | rfl | rfl | rfl | rfl
  all_goals
    have u := Try.underlying9
    unfold Instr.index
    simp [asIntOf, run_underlying u]
    rfl
theorem and15_nat : ∀ n : Fin 256, bits .and .u8 ((n.val : Nat) : Int) 15 = ((n.val % 16 : Nat) : Int) := by decide +kernel
theorem and15 (x : Int) (h0 : 0 ≤ x) (h1 : x < 256) : bits .and .u8 x 15 = x % 16 := by
  obtain ⟨n, rfl⟩ := Int.eq_ofNat_of_zero_le h0
  have := and15_nat ⟨n, by omega⟩
  simpa using this
theorem at8_get (r : Rt) (k : Nat) (hk : k < 32) : at8 r k = ((r.toList[k]'(by simp; exact hk)).toNat : Int) := by
  unfold at8; rw [getD_in _ (by simp; exact hk)]
theorem text_step (r : Rt) (k : Nat) (hk : k < 32) : b8 (textL (r.toList.take (k + 1))) = b8 (textL (r.toList.take k)) ++ [.int .u8 (dgI (at8 r k / 16)), .int .u8 (dgI (at8 r k % 16))] := by
  rw [List.take_succ_eq_append_getElem (by simp; exact hk), at8_get r k hk]
  have e1 : ∀ n : Nat, ((n : Int) / 16).toNat = n / 16 := fun n => by omega
  have e2 : ∀ n : Nat, ((n : Int) % 16).toNat = n % 16 := fun n => by omega
  simp [textL, b8, dig2, dgI, e1, e2]

theorem own_bytes {w : World} {g : Nat} {cur : Array Value} {t : TypeId} {l : List UInt8} (hg : w.heap[g]? = some (.cells cur t (0, 0))) (h : cur.toList.take (l.length * 1) = b8 l) :
    ∀ (j : Nat) (hj : j < l.length), w.cell? ((⟨g, 0, none⟩ : Addr).add j) = some (.int .u8 (l[j].toNat : Int)) := fun j hj => by
  rw [Addr.add_mid, Nat.zero_add, cell_of_row w g j cur t _ hg]
  have e : (cur.toList.take (l.length * 1))[j]? = (b8 l)[j]? := by rw [h]
  rw [List.getElem?_take, if_pos (by omega)] at e
  simpa [b8, List.getElem?_eq_getElem hj] using e
set_option maxRecDepth 100000 in
set_option maxHeartbeats 1000000 in
theorem text_any (r : Rt) (w : World) :
    Calls Try.prog 17 #[.agg (rc r)] w fun e w' => e = .returned (.string ⟨(textL r.toList).toArray⟩) ∧ Below w.heap.size w w' := by
  have hmk : ∀ w : World, (Instr.makeSlice 43 (.int .i64 0) (.int .i64 64)).run Try.prog w = .ok (.slice (some ⟨w.heap.size, 0, none⟩) 0 64) (w.alloc (.cells zero64 5)) := makeBytes
  obtain ⟨iB, hi, hz0, hz1, hz2⟩ := info_parts Try.infoByte
  go_enter Try.func17, Try.ntmps17
  go_wp2
  go_loopw [3, 8] (fun v i wr => ∃ k : Nat, k ≤ 32 ∧ i = .int .i64 k ∧ wr.ownsRow (w.heap.size + 1) 5 1 v (2 * k) (b8 (textL (r.toList.take k))) ∧ Below w.heap.size w wr ∧ w.heap.size + 1 ≤ wr.heap.size) (fun _ i _ => 32 - (intOf i).toNat)
  case atStart => exact ⟨0, Nat.zero_le _, rfl, ⟨rfl, .inr ⟨_, _, zero64, rfl, Nat.le_refl _, heap_alloc2_new _ _ _, by omega, by unfold maxLen; omega, rfl, rfl⟩⟩, ((Below.refl _ _).alloc (Nat.le_refl _) _).alloc (by simp) _, by simp⟩
  case round =>
    obtain ⟨k, hk, rfl, hrow, hnx, hws⟩ := hrel
    by_cases hlt : k < 32
    · have hb := at8_bd r k
      have i0 : (0 : Int) ≤ (k : Int) := by omega
      have i1 : (k : Int) < 32 := by omega
      have hix := fun w => index_rc r k hlt w
      have hd1 := fun w => digit_at (at8 r k / 16) (by omega) (by omega) w
      go_wp2_with fail
      have ha1 := and15 (at8 r k) (by omega) (by omega)
      have hd2 := fun w => digit_at (at8 r k % 16) (by omega) (by omega) w
      go_region_law ((refine step_append_own _ rfl _ _ 43 rfl (w.heap.size + 1) 5 iB (.int .u8 0) 1 1 Try.underlying43 hi hz0 hz1 hz2 rfl (by decide) u3 _ _ rfl (show (wr.drew.alloc _).ownsRow _ _ _ _ _ _ from World.ownsRow.alloc (show wr.drew.ownsRow _ _ _ _ _ _ from hrow) _) ⟨wr.heap.size, 0, none⟩ 2 2 [.int .u8 (dgI (at8 r k / 16)), .int .u8 (dgI (at8 r k % 16))] rfl rfl (cell_row_new' _ _ _) (by intro u hu; simp at hu; rcases hu with rfl | rfl <;> rfl) (by unfold maxLen; omega) (by omega) (by simp; omega) ?_; intro v' w3 hown' hgrow3 _))
      all_goals
        have s3 := hgrow3.size
        simp at s3
        go_wp2_with fail
        go_roundw
        case rel => exact ⟨k + 1, by omega, by go_num, by rw [text_step r k hlt]; exact hown', ((hnx.alloc (by omega) _).drew).grown hgrow3 (by simp; omega) (fun j hj => Nat.le_trans (Nat.le_succ _) (hrow.lt j hj).1), by omega⟩
        case measure => simp [intOf]; omega
    · obtain rfl : k = 32 := by omega
      rcases hrow with ⟨hlen, ⟨rfl, h0⟩ | ⟨g, cap', cur, rfl, hg1, hg2, hn1, hn2, hn3, hn4⟩⟩
      · omega
      · have ht : r.toList.take 32 = r.toList := List.take_of_length_le (by simp)
        rw [ht] at hn4 hlen
        have hll : (textL r.toList).length = 2 * 32 := by simpa [b8] using hlen
        have hcv := run_convert_bytes_back (P := Try.prog) wr 43 9 5 ⟨g, 0, none⟩ cap' (textL r.toList) Try.underlying43 Try.underlying5 Try.underlying9 (own_bytes hg2 (by rw [hll]; exact hn4))
        rw [hll] at hcv
        clear hn4 hlen ht hg2 hn3
        go_wp2
        go_ret
        exact ⟨rfl, hnx⟩
end Go.Proofs.Ytecppjbbodpcnaa
