/-
  What is asked of package late's functions (contracts, by name); the law's own example.
-/
import Derived.Test.YtljehgohcchocaaR13Put
import Derived.Test.YtljehgohcchocaaR13Due
import Derived.Test.YtljehgohcchocaaR13Same
namespace Go.Proofs.Ytljehgohcchocaa
open Go.RowKit
set_option maxRecDepth 100000

/-- All of them. -/
structure LateC : Prop where
  may : ∀ (v : Value) (l : List Aa) (w : World), SlE Eaa w v l → Calls Try.prog 17 #[v] w fun e w' => e = .returned (.bool (mayA l)) ∧ Below w.heap.size w w'
  put : ∀ (v : Value) (l : List Aa) (x : Aa) (w : World), SlE Eaa w v l → l.length ≤ 1000 → Calls Try.prog 9 #[v, .agg (aa x)] w (AttsEr (putA l x) (putE l x) w)
  due : ∀ (v : Value) (l : List Aa) (now : Nat) (w : World), now < 18446744073709551616 → SlE Eaa w v l → l.length ≤ 1000 → Calls Try.prog 11 #[v, .int .u64 (now : Int)] w (AttsTwo (dueL l now) (restL l now) w)
  next : ∀ (v : Value) (l : List Aa) (w : World), SlE Eaa w v l → l.length ≤ 1000 → Calls Try.prog 13 #[v] w fun e w' => e = .returned (.tuple #[.int .u64 (nextN l : Int), .bool (someA l)]) ∧ Below w.heap.size w w'
  same : ∀ (v u : Value) (l k : List Aa) (w : World), SlE Eaa w v l → SlE Eaa w u k → l.length ≤ 1000 → Calls Try.prog 18 #[v, u] w fun e w' => e = .returned (.bool (decide (l = k))) ∧ Below w.heap.size w w'
theorem enters_lateMay : ∀ args w, (callFunc 17 args).run Try.prog w = .ok (.enter 17 args) w := entersE Try.func17 (by kernel_rfl) (by kernel_rfl)
/-- A list that lies somewhere. -/
structure Aw (w W : World) (v : Value) (l : List Aa) : Prop where
  s : SlE Eaa W v l
  g : Below w.heap.size w W
theorem Aw.keep {w W W' : World} {v : Value} {l : List Aa} (h : Aw w W v l) (g : Below W.heap.size W W') : Aw w W' v l := ⟨slE_keep g h.s, belowT h.g g⟩
def a3 : Aa := { zaa with slot := 3 }
def a5 : Aa := { zaa with slot := 5 }
@[local go_sem] theorem put_s3 (x : Aa) : putSeg (aa x) 1 #[.int .u64 3] = aa { x with slot := 3 } := aa_put_slot x 3
@[local go_sem] theorem put_s5 (x : Aa) : putSeg (aa x) 1 #[.int .u64 5] = aa { x with slot := 5 } := aa_put_slot x 5
theorem late_ex : putA [a3] a5 = [a3, a5] ∧ putE [a3] a5 = 0 ∧ dueL [a3, a5] 4 = [a3] ∧ restL [a3, a5] 4 = [a5] ∧ nextN [a3, a5] = 3 ∧ someA [a3, a5] = true ∧ mayA [a3, a5] = true ∧ slA [a3] 0 = 3 := by decide +kernel

set_option maxRecDepth 100000 in
set_option maxHeartbeats 8000000 in
theorem awake_any13 (H : LateC) (w : World) : Calls Try.prog 8 #[] w fun e w' => e = .returned (.bool true) ∧ Below w.heap.size w w' := by
  obtain ⟨x1, x2, x3, x4, x5, x6, x7, x8⟩ := late_ex
  have H1 := Lib.hid (fun (v : Value) W (h : SlE Eaa W v [a3]) => H.put v _ a5 W h (by decide))
  have H2 := Lib.hid (fun (v : Value) W (h : SlE Eaa W v [a3, a5]) => H.due v _ 4 W (by decide) h (by decide))
  have H3 := Lib.hid (fun (v : Value) W (h : SlE Eaa W v [a3, a5]) => H.next v _ W h (by decide))
  have H4 := Lib.hid (fun (v : Value) W (h : SlE Eaa W v [a3, a5]) => H.may v _ W h)
  have H5 := Lib.hid (fun (v : Value) W (h : SlE Eaa W v [a3, a5]) => H.same v v _ _ W h h (by decide))
  rw [x1, x2] at H1
  rw [x3, x4] at H2
  rw [x5, x6] at H3
  rw [x7] at H4
  rw [decide_eq_true rfl] at H5
  have X8 := Lib.hid x8
  clear x1 x2 x3 x4 x5 x6 x7 x8 H
  go_enter Try.func8, Try.ntmps8
  go_wp2_with fail
  obtain ⟨W, hW⟩ : ∃ W, W = w.alloc (.cells (aa a3) 29) := ⟨_, rfl⟩
  have A : Hid (Aw w W (.slice (some ⟨w.heap.size, 0, none⟩) 1 1) [a3]) := by rw [hW]; exact ⟨aa_lit1 w a3 _ rfl, below1⟩
  have HW := Lib.hid hW
  change Calls _ _ #[_, .agg (aa a5)] (w.alloc (.cells (aa a3) 29)) _
  rw [← HW.out]
  clear hW HW
  refine (H1.out _ _ A.out.s).mono ?_
  rintro e w1 ⟨v1, rfl, hv, g⟩
  replace A : Hid (Aw w w1 v1 [a3, a5]) := ⟨hv, belowT A.out.g g⟩
  clear hv g
  go_wp2_with fail
  refine (H2.out _ _ A.out.s).mono ?_
  rintro e w2 ⟨v2, v3, rfl, h2, h3, g⟩
  replace A := Lib.hid (A.out.keep g)
  have D := Lib.hid h2
  obtain ⟨p3, c3, rfl⟩ := slE_len h3 (n := 1) rfl
  clear h2 h3 g
  obtain ⟨p2, c2, rfl⟩ := slE_len D.out (n := 1) rfl
  go_wp2_with fail
  refine (H3.out _ _ A.out.s).mono ?_
  rintro e w3 ⟨rfl, g⟩
  replace A := Lib.hid (A.out.keep g)
  replace D := Lib.hid (slE_keep g D.out)
  clear g
  obtain ⟨b2, o2, rfl, _, xx⟩ := atts_ptr D.out (by decide)
  have y2 := atts_slot xx (i := 0) (by decide)
  rw [X8.out, Nat.zero_mul, Nat.add_zero] at y2
  clear xx
  go_wp2_with fail
  refine (H4.out _ _ A.out.s).mono ?_
  rintro e w4 ⟨rfl, g⟩
  replace A := Lib.hid (A.out.keep g)
  clear g y2
  go_wp2_with fail
  refine (H5.out _ _ A.out.s).mono ?_
  rintro e w5 ⟨rfl, g⟩
  replace A := Lib.hid (A.out.keep g)
  clear g
  go_wp2_with fail
  go_ret
  exact ⟨rfl, A.out.g⟩
end Go.Proofs.Ytljehgohcchocaa
