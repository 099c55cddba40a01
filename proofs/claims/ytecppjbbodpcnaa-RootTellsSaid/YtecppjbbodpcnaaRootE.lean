/-
  Package root: Sort, walked: the roots in order, each once, in memory of the call's own.
-/
import Derived.Test.YtecppjbbodpcnaaRootD
import Derived.Test.YtecppjbbodpcnaaShelf
namespace Go.Proofs.Ytecppjbbodpcnaa
open Go.RowKit

instance : Inhabited Rt := ⟨zr⟩
def encR (r : Rt) : List Value := (rc r).toList
theorem encR_len (r : Rt) : (encR r).length = 32 := by simp [encR, rc_size]
theorem encR_arr (r : Rt) : (encR r).toArray = rc r := by simp [encR]

theorem ltOrd (x y : Rt) : ltOf ordI x y = lessR x y := by
  unfold ltOf ordI eqB
  by_cases h : x = y
  · subst h; simp [lessR_irrefl]
  · cases h2 : lessR x y <;> simp [h]
theorem swoOrd : Sort.SWO (ltOf ordI) where
  irrefl x := by rw [ltOrd]; exact lessR_irrefl x
  trans x y z h1 h2 := by rw [ltOrd] at *; exact lessR_trans h1 h2
  ntrans x y z h1 h2 := by
    rw [ltOrd] at *
    have := le_trans z y x (by simpa using h2) (by simpa using h1)
    simpa using this
theorem totOrd (x y : Rt) (h1 : ltOf ordI x y = false) (h2 : ltOf ordI y x = false) : x = y := by
  rw [ltOrd] at *; exact lessR_tri h1 h2
theorem cmpOrd (blk off size : Nat) (w : World) : CmpLays Try.prog 23 #[] encR 32 ordI blk off size w := fun _ _ _ _ x y => by
  rw [encR_arr, encR_arr]; exact order_any x y _
theorem entersOrd : ∀ args w, (callFunc 23 args).run Try.prog w = .ok (.enter 23 args) w := enters_of Try.func23 (by kernel_rfl) rfl

theorem cellsL_get : ∀ (l : List Rt) (i c : Nat) (hi : i < l.length) (_ : c < 32), (cellsL l)[i * 32 + c]? = some (.int .u8 (at8 l[i] c))
  | [], _, _, hi, _ => by simp at hi
  | a :: l, 0, c, _, hc => by
    rw [cellsL, List.flatMap_cons, Nat.zero_mul, Nat.zero_add, List.getElem?_append_left (by simp [rc_size]; exact hc)]
    simpa using rc_get a c hc
  | a :: l, i + 1, c, hi, hc => by
    rw [cellsL, List.flatMap_cons, List.getElem?_append_right (by simp [rc_size]; omega)]
    rw [show (i + 1) * 32 + c - (rc a).toList.length = i * 32 + c by simp [rc_size]; omega]
    exact cellsL_get l i c (by simpa using hi) hc
theorem flat_get (d : Array Rt) (t : Nat) (h : t < d.size * 32) : (Sort.flatK encR 32 d)[t]! = .int .u8 (at8 d[t / 32]! (t % 32)) := by
  rw [Sort.get_flatK encR 32 d t h]
  have hc : t % 32 < (rc d[t / 32]!).size := by rw [rc_size]; omega
  show ((rc d[t / 32]!).toList)[t % 32]! = _
  rw [List.getElem!_eq_getElem?_getD]
  simp only [Array.getElem?_toList, rc_get _ _ (show t % 32 < 32 by omega)]
  rfl
/-- A row that the call owns, held as the sort asks it. -/
theorem holds_of_row {w : World} {g : Nat} {cur : Array Value} {t : TypeId} {l : List Rt} (hg : w.heap[g]? = some (.cells cur t (0, 0))) (ht : cur.toList.take (l.length * 32) = cellsL l) :
    Sort.HoldsK encR 32 w g 0 l.toArray := by
  intro j hj
  have hj' : j < l.length * 32 := by simpa [Sort.size_flatK] using hj
  rw [Nat.zero_add, cell_of_row w g j cur t _ hg, frozen_of_row w g j cur t hg, flat_get _ _ (by simpa using hj')]
  refine ⟨?_, rfl⟩
  have h1 := cellsL_get l (j / 32) (j % 32) (by omega) (by omega)
  rw [show j / 32 * 32 + j % 32 = j by omega, ← ht, List.getElem?_take, if_pos hj'] at h1
  have e : (l.toArray[j / 32]!) = l[j / 32]'(by omega) := by
    rw [getElem!_pos _ _ (by simp; omega)]; simp
  rw [e]
  simpa using h1
theorem ldA_of_holds {w : World} {b off : Nat} {d : Array Rt} (h : Sort.HoldsK encR 32 w b off d) (i : Nat) (hi : i < d.size) : ldA w (.pointer (some ⟨b, off + i * 32, none⟩)) 32 = some (rc d[i]) := by
  refine ldA_mk (rc_size _) fun j v hv => ?_
  have hj : j < 32 := by
    have := (List.getElem?_eq_some_iff.1 hv).1
    simpa [rc_size] using this
  have h1 := (h.cell hi hj).1
  rw [h1, ← hv, getElem!_pos d i hi]
  show some ((rc d[i]).toList[j]!) = (rc d[i]).toList[j]?
  rw [List.getElem?_eq_getElem (by simp [rc_size]; exact hj), getElem!_pos _ j (by simp [rc_size]; exact hj)]
theorem below_sort {B : Nat} {w : World} {g n : Nat} {d : Array Rt} {os : Array Obj} (hg : B ≤ g) (hB : B ≤ w.heap.size) : Below B w (sortWorldK encR 32 w g 0 n d os) := by
  refine ⟨rfl, rfl, rfl, size_sortWorldK_c encR 32 w g 0 n d os, fun k hk => ?_⟩
  unfold sortWorldK
  rw [Sort.heap_grow_old _ _ (by rw [show (Sort.putRowK encR 32 (Sort.ahead w n) g 0 d).heap.size = w.heap.size from Sort.size_putRow _ _ _ _ _]; omega)]
  show (Sort.mapBlock (Sort.ahead w n) g _).heap[k]? = _
  simp only [Sort.mapBlock, Array.getElem?_modify]
  rw [if_neg (by omega)]
  rfl

/-- What Sort answers. -/
def SortIs (l : List Rt) (w : World) (e : Ending) (w' : World) : Prop := ∃ v, e = .returned v ∧ SlR w' v (srt l) ∧ Below w.heap.size w w'

theorem slR_nil (w : World) (cap : Nat) (p : Option Addr) : SlR w (.slice p 0 cap) [] := ⟨p, cap, rfl, .inl rfl⟩

set_option maxHeartbeats 1000000 in
theorem sort_any (v : Value) (l : List Rt) (w : World) (hl : SlR w v l) (hreach : l.length * 32 ≤ 140737488351232) :
    Calls Try.prog 14 #[v] w (SortIs l w) := by
  obtain ⟨p, cap, rfl, hl⟩ := hl
  by_cases hn : l = []
  · subst hn
    have c1 := fun W => once_none p cap W
    have c2 := fun W => AnyF.slices_SortFunc_none Try.sortRoot none 0 (.func (.func 23) #[] #[]) W
    change ∀ W, Calls Try.prog 22 _ _ _ at c2
    clear hl hreach
    show Calls Try.prog 14 #[.slice p 0 cap] w _
    go_enter Try.func14, Try.ntmps14
    go_wp2_with fail
    refine (c1 _).mono ?_
    rintro e w1 ⟨rfl, hb⟩
    go_wp2_with fail
    refine (c2 _).mono ?_
    rintro e w2 ⟨rfl, rfl⟩
    go_wp2_with fail
    go_ret
    exact ⟨_, rfl, by rw [srt_nil]; exact slR_nil _ _ _, hb⟩
  · obtain ⟨b, off, rfl, hb, hc⟩ := hl.resolve_left hn
    have c1 := once_any b off cap l w hreach hb hc
    have c2 : ∀ v W, W.ownsRow (w.heap.size + 1) 23 32 v (onceR l l.length).length (cellsL (onceR l l.length)) → w.heap.size ≤ W.heap.size → Calls Try.prog 22 #[v, .func (.func 23) #[] #[]] W fun e w' => e = .returned (.tuple #[]) ∧ SlR w' v (srt l) ∧ Below w.heap.size W w' := by
      intro v W ho hsz
      have hle := onceR_le l l.length
      rcases ho with ⟨hlen, ⟨rfl, h0⟩ | ⟨g, cap', cur, rfl, hg1, hg2, hn1, hn2, hn3, hn4⟩⟩
      · have hz : onceR l l.length = [] := List.length_eq_zero_iff.1 h0
        have := AnyF.slices_SortFunc_none Try.sortRoot none 0 (.func (.func 23) #[] #[]) W
        change Calls Try.prog 22 _ _ _ at this
        refine this.mono fun e w' ⟨he, hw⟩ => ⟨he, ?_, by subst hw; exact Below.refl _ _⟩
        have hs : srt l = [] := by unfold srt; rw [hz]; simp
        rw [hs]; exact slR_nil _ _ _
      · have hH := holds_of_row hg2 hn4
        have hgl : g < W.heap.size := (Array.getElem?_eq_some_iff.1 hg2).1
        have := AnyQ.slices_SortFunc_total Try.sortRoot 32 Try.isAgg23 Try.sizeOf23 encR encR_len (fun x v hv => rc_ones x v hv) ordI swoOrd 23 #[] g 0 cap' (onceR l l.length).toArray W entersOrd (cmpOrd _ _ _ _) hH hgl (by simp; omega) totOrd
        change Calls Try.prog 22 _ _ _ at this
        refine this.mono fun e w' ⟨he, n, os, hw⟩ => ⟨he, ?_, by subst hw; exact below_sort (by omega) hsz⟩
        have hf : (fun x y => !ltOf ordI y x) = fun x y => !lessR y x := by funext x y; rw [ltOrd]
        rw [hf] at hw
        have hH2 : Sort.HoldsK encR 32 w' g 0 (srt l).toArray := by
          rw [hw]
          exact holdsK_sortWorldK_c encR 32 W g 0 _ _ n os hH hgl (by simp [List.length_mergeSort])
        have hls : (srt l).length = (onceR l l.length).length := by unfold srt; rw [List.length_mergeSort]
        refine ⟨some ⟨g, 0, none⟩, cap', by rw [hls], .inr ⟨g, 0, rfl, ?_, fun i hi => ?_⟩⟩
        · rw [hw]; exact Nat.lt_of_lt_of_le hgl (size_sortWorldK_c encR 32 W g 0 n _ os)
        · have := ldA_of_holds hH2 i (by simpa using hi)
          simpa using this
    clear hl hc
    go_enter Try.func14, Try.ntmps14
    go_wp2_with fail
    refine c1.mono ?_
    rintro e w1 ⟨v, rfl, ho, hb1⟩
    go_wp2_with fail
    refine (c2 _ _ ho hb1.size).mono ?_
    rintro e w2 ⟨rfl, hs, hb2⟩
    go_wp2_with fail
    go_ret
    exact ⟨_, rfl, hs, hb1.trans hb2⟩
end Go.Proofs.Ytecppjbbodpcnaa
