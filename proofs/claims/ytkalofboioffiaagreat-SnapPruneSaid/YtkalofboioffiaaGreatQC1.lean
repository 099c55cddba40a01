import Derived.Test.YtkalofboioffiaaGreatQ16
namespace Go.Proofs.YtkalofboioffiaaGreat
open Go.RowKit
set_option maxRecDepth 200000
set_option maxHeartbeats 64000000
section
open Go.RowKit
def bkL (x : Bk) : List Value := (rc x.root).toList ++ ((rc x.parent).toList ++ ([num x.slot] ++ ([num x.just])))
def bk (x : Bk) : Array Value := (bkL x).toArray
theorem ykz (x : Bk) : (bk x).toList = bkL x := rfl
theorem yo6 (x : Bk) : (bkL x).length = 66 := by simp [bkL, zav]
theorem zj1 (x : Bk) : (bk x).size = 66 := by rw [← Array.length_toList, ykz, yo6]
@[go_sem ↓] theorem ys3 (ρ : Operand → Value) (dst : Option Tmp) (x : Operand) (ty : TypeId) (pos : String) (after : Array Edge) (guard : Option (Nat × Bool)) (w : World) :
  (execOp ρ { dst, op := .load 71 x, type := ty, pos, after, guard }).run Tryz.prog w = zkh (ldA w (ρ x) 66) w (zbn Tryz.prog ρ { dst, op := .load 71 x, type := ty, pos, after, guard } w) :=
 zb2 Tryz.isAgg71 Tryz.sizeOf71 ρ dst x ty pos after guard w
theorem zl8 : Tryz.prog.underlying 71 = some (.struct (Tryz.prog.fieldsOf 71)) := by kernel_rfl
theorem zuv : (Tryz.prog.fieldsOf 71).toList.map (fun f => (f.name, f.type, f.offset)) = [("Root", 34, 0), ("Parent", 34, 32), ("Slot", 27, 64), ("Just", 27, 65)] := by kernel_rfl
attribute [go_sem] zj1
theorem zsl (x : Bk) : bkL x = ([]) ++ ((rc x.root).toList ++ ((rc x.parent).toList ++ ([num x.slot] ++ ([num x.just])))) ∧ ([] : List Value).length = 0 := by
 constructor
 ·
  unfold bkL; simp
 ·
  rfl
theorem z44 {w : World} {b off : Nat} {x : Bk} (h : w.rangeAt b off (bkL x)) : ldA w (.pointer (some ⟨b, off + 0, none⟩)) 32 = some (rc x.root) := zca h (zsl x).1 (zsl x).2 (zav _)
theorem zj0 {w : World} {g : Nat} {t : TypeId} {fr : Nat × Nat} {x : Bk} (h : w.heap[g]? = some (.cells (bk x) t fr)) : ldA w (.pointer (some ⟨g, 0, none⟩)) 32 = some (rc x.root) := by have := z44 (x := x) (zai h); rwa [Nat.zero_add] at this
theorem zno (x : Bk) : bkL x = ((rc x.root).toList) ++ ((rc x.parent).toList ++ ([num x.slot] ++ ([num x.just]))) ∧ ((rc x.root).toList : List Value).length = 32 := by
 constructor
 ·
  unfold bkL; simp
 ·
  simp [zav]
theorem zw3 {w : World} {b off : Nat} {x : Bk} (h : w.rangeAt b off (bkL x)) : ldA w (.pointer (some ⟨b, off + 32, none⟩)) 32 = some (rc x.parent) := zca h (zno x).1 (zno x).2 (zav _)
theorem zt6 {w : World} {g : Nat} {t : TypeId} {fr : Nat × Nat} {x : Bk} (h : w.heap[g]? = some (.cells (bk x) t fr)) : ldA w (.pointer (some ⟨g, 32, none⟩)) 32 = some (rc x.parent) := by have := zw3 (x := x) (zai h); rwa [Nat.zero_add] at this
theorem zso (x : Bk) : bkL x = ((rc x.root).toList ++ (rc x.parent).toList) ++ ([num x.slot] ++ ([num x.just])) ∧ ((rc x.root).toList ++ (rc x.parent).toList : List Value).length = 64 := by
 constructor
 ·
  unfold bkL; simp
 ·
  simp [zav]
theorem z45 {w : World} {b off : Nat} {x : Bk} (h : w.rangeAt b off (bkL x)) : w.cell? ⟨b, off + 64, none⟩ = some (num x.slot) := zbj h (zso x).1 (zso x).2
theorem zpa {w : World} {g : Nat} {t : TypeId} {fr : Nat × Nat} {x : Bk} (h : w.heap[g]? = some (.cells (bk x) t fr)) : w.cell? ⟨g, 64, none⟩ = some (num x.slot) := by have := z45 (x := x) (zai h); rwa [Nat.zero_add] at this
theorem zsk (x : Bk) : bkL x = ((rc x.root).toList ++ (rc x.parent).toList ++ [num x.slot]) ++ ([num x.just] ++ ([])) ∧ ((rc x.root).toList ++ (rc x.parent).toList ++ [num x.slot] : List Value).length = 65 := by
 constructor
 ·
  unfold bkL; simp
 ·
  simp [zav]
theorem z43 {w : World} {b off : Nat} {x : Bk} (h : w.rangeAt b off (bkL x)) : w.cell? ⟨b, off + 65, none⟩ = some (num x.just) := zbj h (zsk x).1 (zsk x).2
theorem zz5 {w : World} {g : Nat} {t : TypeId} {fr : Nat × Nat} {x : Bk} (h : w.heap[g]? = some (.cells (bk x) t fr)) : w.cell? ⟨g, 65, none⟩ = some (num x.just) := by have := z43 (x := x) (zai h); rwa [Nat.zero_add] at this
theorem z47 : Tryz.prog.cellsOf 71 = 66 := by kernel_rfl
section
open Go.WideShapes Go.ChangeShapes
variable {H : Type} {enc : TypeId × Value → H} {w : World} {base : Nat} {sp : Nat → Bool} {held : Bool}
theorem ye9 {fuel : Nat} {cs : List Value} {x : DataW H × List MemPlace} (hl : cs.length = 66) (h : DataW.trod enc Tryz.prog w base sp held fuel 71 cs = some x) : ∃ a : Bk, cs = bkL a := by
 obtain ⟨_, _, h0⟩ := zas (i := 0) zl8 zuv rfl h
 rw [zcp] at h0
 obtain ⟨a0, e0⟩ := zc6 h0
 obtain ⟨_, _, h1⟩ := zas (i := 1) zl8 zuv rfl h
 rw [zcp] at h1
 obtain ⟨a1, e1⟩ := zc6 h1
 obtain ⟨_, _, h2⟩ := zas (i := 2) zl8 zuv rfl h
 rw [zce] at h2
 obtain ⟨a2, e2⟩ := zc3 h2
 obtain ⟨_, _, h3⟩ := zas (i := 3) zl8 zuv rfl h
 rw [zce] at h3
 obtain ⟨a3, e3⟩ := zc3 h3
 refine ⟨⟨a0, a1, a2, a3⟩, ?_⟩
 unfold bkL
 have j0 := za6 cs 0 32
 rw [e0] at j0
 have j1 := za6 cs 32 32
 rw [e1] at j1
 have j2 := za6 cs 64 1
 rw [e2] at j2
 have j3 := za6 cs 65 1
 rw [e3] at j3
 have jl : cs.drop 66 = [] := List.drop_of_length_le (by omega)
 rw [show (65 + 1) = 66 from rfl, jl, List.append_nil] at j3
 rw [← List.drop_zero (l := cs)]
 rw [← j0]
 rw [show cs.drop (0 + 32) = cs.drop 32 from rfl, ← j1]
 rw [show cs.drop (32 + 32) = cs.drop 64 from rfl, ← j2]
 rw [show cs.drop (64 + 1) = cs.drop 65 from rfl, ← j3]
 try rfl
theorem open_bk {r : Reach} {b0 : Nat} {v : Value} {d : DataW H} {ps : List MemPlace} (hval : Value.okWide Tryz.prog w r b0 71 v) (hd : DataW.Trod enc Tryz.prog w base sp held 71 v d ps) : ∃ a : Bk, v = .agg (bk a) := by
 obtain ⟨xs, rfl, hn⟩ := okWide_struct zl8 hval
 rw [z47] at hn
 obtain ⟨fuel, hf⟩ := hd
 obtain ⟨a, ha⟩ := ye9 (cs := xs.toList) (by rw [Array.length_toList, hn]) hf
 exact ⟨a, by rw [show xs = bk a from Array.toList_inj.1 ha]⟩
end
attribute [irreducible] bk
end
structure z8p : Prop where
 may : ∀ (x : En) (g : Eg) (w : World), LaidG w x g → zcv g → Calls Tryz.prog 20 #[.agg (en x)] w (fun e w' => e = .returned (.bool (mayG g)) ∧ Below w.heap.size w w')
structure z8o : Prop where
 may : ∀ (x : En) (g : Eg) (w : World), LaidG w x g → zcv g → Calls Tryz.prog 20 #[.agg (en x)] w (fun e w' => e = .returned (.bool (mayG g)) ∧ Below w.heap.size w w')
 block : ∀ (x : En) (g : Eg) (b : Bk) (w : World), LaidG w x g → zcv g → Calls Tryz.prog 26 #[.agg (en x), .agg (bk b)] w (EgEr (blkG g b) (ze9 g b) w)
structure z8q : Prop where
 may : ∀ (x : En) (g : Eg) (w : World), LaidG w x g → zcv g → Calls Tryz.prog 20 #[.agg (en x)] w (fun e w' => e = .returned (.bool (mayG g)) ∧ Below w.heap.size w w')
 prune : ∀ (x : En) (g : Eg) (w : World), LaidG w x g → zcv g → Calls Tryz.prog 25 #[.agg (en x)] w (EgEr (prG g) (zif g) w)
structure z8s : Prop where
 same : ∀ (s t : SlV) (l k : List Nd) (w : World), SlE Ene w (sv s) l → SlE Ene w (sv t) k → l.length ≤ 1000 → Calls Tryz.prog 22 #[.agg (tr ⟨s⟩), .agg (tr ⟨t⟩)] w (fun e w' => e = .returned (.bool (decide (l = k))) ∧ Below w.heap.size w w')
 above : ∀ (s : SlV) (l : List Nd) (i k : Int) (w : World), SlE Ene w (sv s) l → Calls Tryz.prog 23 #[.agg (tr ⟨s⟩), .int .i64 i, .int .i64 k] w (fun e w' => e = .returned (.bool (zb0 l i k)) ∧ Below w.heap.size w w')
 kids : ∀ (s : SlV) (l : List Nd) (i : Int) (w : World), SlE Ene w (sv s) l → Calls Tryz.prog 24 #[.agg (tr ⟨s⟩), .int .i64 i] w (z2p (zkf l i) w)
theorem zeg : ∀ args w, (callFunc 24 args).run Tryz.prog w = .ok (.enter 24 args) w := zbe Tryz.func24 (by kernel_rfl) (by kernel_rfl)
end Go.Proofs.YtkalofboioffiaaGreat
