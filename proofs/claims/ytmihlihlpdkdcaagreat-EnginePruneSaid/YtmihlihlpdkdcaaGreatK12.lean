import Derived.Test.YtmihlihlpdkdcaaGreatQ07
import Derived.Test.YtmihlihlpdkdcaaGreatQ05
import Derived.Test.YtmihlihlpdkdcaaGreatK11
import Derived.Test.YtmihlihlpdkdcaaGreatQ08
import Derived.Laws.Bits64b
import Derived.Test.YtmihlihlpdkdcaaGreatQ04
import Derived.Test.YtmihlihlpdkdcaaGreatQ09
import Derived.Test.YtmihlihlpdkdcaaGreatQ10
import Derived.Deep.Cut
import Derived.Deep.CutRange
import Derived.Deep.RegionLaw
import Derived.Laws.Cover3
namespace Go.Proofs.YtmihlihlpdkdcaaGreat
open Go.RowKit
set_option maxRecDepth 200000
set_option maxHeartbeats 64000000
open Go.RowKit
theorem k_or (a b : UInt64) : bits .or .u64 (a.toNat : Int) (b.toNat : Int) = ((a ||| b).toNat : Int) := by
 rw [bits_or_u64_nat a.toNat b.toNat a.toNat_lt b.toNat_lt, UInt64.toNat_or]
theorem zjm {w : World} {p : Option Addr} {n cp : Nat} {l : List Lk} (h : SlE Elk w (.slice p n cp) l) (h0 : 0 < l.length) : ∃ b o, p = some ⟨b, o, none⟩ ∧ b < w.heap.size ∧ w.rangeAt b o (zan Elk l) := by
 obtain ⟨b, o, c, e, _, q, x⟩ := zc8 h h0
 injection e with e1 e2 e3
 exact ⟨b, o, e1, q, x⟩
section
variable {w : World} {b off : Nat} {l : List Lk} {i : Nat}
theorem yvr (h : w.rangeAt b off (zan Elk l)) (hi : i < l.length) : w.rangeAt b (off + i * 67) (lkL (lkAt l i)) := by
 rw [zcm hi]; exact zku h hi
theorem zob (h : w.rangeAt b off (zan Elk l)) (hi : i < l.length) : ldA w (.pointer (some ⟨b, off + i * 67, none⟩)) 67 = some (lk (lkAt l i)) := by
 have := ztn h hi
 rw [zcm hi]
 exact this.trans (by rw [show (Elk.enc l[i]).toArray = lk l[i] from Array.toList_inj.1 (by rw [zse]; rfl)])
theorem z7l (h : w.rangeAt b off (zan Elk l)) (hi : i < l.length) : w.cell? ⟨b, off + i * 67 + 66, none⟩ = some (.int .u64 ((lkAt l i).mask.toNat : Int)) := zvf (yvr h hi)
end
structure LkV (W : World) (g : Nat) (x : Lk) : Prop where
 s : ldA W (.pointer (some ⟨g, 0, none⟩)) 33 = some (cc x.s)
 t : ldA W (.pointer (some ⟨g, 33, none⟩)) 33 = some (cc x.t)
 m : W.cell? ⟨g, 66, none⟩ = some (.int .u64 (x.mask.toNat : Int))
 se : W.cell? ⟨g, 0, none⟩ = some (.int .u64 (x.s.epoch.toNat : Int))
 te : W.cell? ⟨g, 33, none⟩ = some (.int .u64 (x.t.epoch.toNat : Int))
 a : ldA W (.pointer (some ⟨g, 0, none⟩)) 67 = some (lk x)
 g : g < W.heap.size
theorem lk_v {W : World} {g : Nat} {x : Lk} (h : W.heap[g]? = some (.cells (lk x) 110 (0, 0))) : LkV W g x :=
 ⟨ynq h, yl4 h, z4e h, zus h, zle h, zaf h (zio x), (Array.getElem?_eq_some_iff.1 h).1⟩
structure CkV (W : World) (g : Nat) (x : Ck) : Prop where
 a : ldA W (.pointer (some ⟨g, 0, none⟩)) 33 = some (cc x)
 e : W.cell? ⟨g, 0, none⟩ = some (.int .u64 (x.epoch.toNat : Int))
 g : g < W.heap.size
theorem ck_v {W : World} {g : Nat} {x : Ck} (h : W.heap[g]? = some (.cells (cc x) 37 (0, 0))) : CkV W g x :=
 ⟨zaf h (za1 x), zp8 h, (Array.getElem?_eq_some_iff.1 h).1⟩
theorem ysh (l : List Lk) {i : Nat} (hi : i < l.length) (y : UInt64) : zan Elk (l.set i { lkAt l i with mask := y }) = (zan Elk l).set (i * 67 + 66) (num y) := by
 have hlen : (zan Elk (l.take i)).length = i * 67 := by rw [zbd, List.length_take, Nat.min_eq_left (by omega)]; rfl
 rw [zvp l hi, zo3 l hi, List.set_append_right _ _ (by omega), hlen, Nat.add_sub_cancel_left, zcm hi]
 have h1 : (Elk.enc l[i]).length = 67 := Elk.len _
 rw [List.set_append_left _ _ (by rw [h1]; decide)]
 congr 2
 show lkL { l[i] with mask := y } = (lkL l[i]).set 66 (num y)
 unfold lkL
 rw [List.set_append_right _ _ (by rw [Array.length_toList, za1]; decide), List.set_append_right _ _ (by rw [Array.length_toList, Array.length_toList, za1, za1]; decide), Array.length_toList, Array.length_toList, za1, za1]
 rfl
theorem ynm {w : World} {base g n cap : Nat} {l : List Lk} (h : OwnE Elk w base (.slice (some ⟨g, 0, none⟩) n cap) l) (hn : l.length = n) {i : Nat} (hi : i < n) (y : UInt64) : OwnE Elk (w.setCell ⟨g, i * 67 + 66, none⟩ (.int .u64 (y.toNat : Int))) base (.slice (some ⟨g, 0, none⟩) n cap) (l.set i { lkAt l i with mask := y }) := by
 subst hn
 unfold OwnE at h ⊢
 rw [ysh l hi, List.length_set]
 exact (World.ownsRow.stored h (i * 67 + 66) (.int .u64 (y.toNat : Int))).1
theorem z4u {w : World} {base g n cap : Nat} {l : List Lk} (h : OwnE Elk w base (.slice (some ⟨g, 0, none⟩) n cap) l) (hn : l.length = n) (k : Nat) : w.frozen? ⟨g, k, none⟩ = false := by
 subst hn; exact World.ownsRow.frozenAt h k
theorem ycr {w : World} {base : Nat} {v : Value} {l : List Lk} {n : Nat} (h : OwnE Elk w base v l) (hn : l.length = n) (h0 : 0 < n) : ∃ g cap, v = .slice (some ⟨g, 0, none⟩) n cap ∧ base ≤ g := by
 subst hn
 rcases h.2 with ⟨_, e⟩ | ⟨g, cap, cur, e, hb, _⟩
 ·
  have := zbd Elk l
  have h67 : Elk.n = 67 := rfl
  rw [h67] at this
  first | omega | (simp at e; omega)
 ·
  exact ⟨g, cap, e, hb⟩
theorem yd2 {w : World} {base g n cap : Nat} {l : List Lk} (h : OwnE Elk w base (.slice (some ⟨g, 0, none⟩) n cap) l) (hn : l.length = n) (h0 : 0 < n) : w.rangeAt g 0 (zan Elk l) := by
 obtain ⟨b1, o1, e, _, x⟩ := zjm (zak h) (by omega)
 injection e with e
 injection e with e1 e2
 subst e1 e2
 exact x
def yr7 (l : List Lk) (n : Nat) (w : World) (e : Ending) (w' : World) : Prop := ∃ v : Value, e = .returned (.tuple #[v, .int .i64 (n : Int)]) ∧ SlE Elk w' v l ∧ Below w.heap.size w w'
theorem yh9 (w : World) (x : Lk) (b : Nat) (hb : b = w.heap.size) : SlE Elk (w.alloc (.cells (lk x) 110)) (.slice (some ⟨b, 0, none⟩) 1 1) [x] :=
 ze9 w _ 1 _ _ b rfl hb (by simp [zan, Elk, zse])
open Go.RowKit
theorem zhw {l : List Ck} {i : Nat} (h : i < l.length) : ckAt l i = l[i] := by unfold ckAt; rw [List.getD_eq_getElem?_getD, List.getElem?_eq_getElem h]; rfl
theorem ypp {a b : List Ck} (hl : a.length = b.length) (h : ∀ i, i < b.length → ckAt a i = ckAt b i) : a = b := List.ext_getElem hl fun i h1 h2 => by have := h i h2; rwa [zhw h1, zhw h2] at this
theorem zim {w : World} {p : Option Addr} {n cp : Nat} {l : List Ck} (h : SlE Ecc w (.slice p n cp) l) (h0 : 0 < l.length) : ∃ b o, p = some ⟨b, o, none⟩ ∧ b < w.heap.size ∧ w.rangeAt b o (zan Ecc l) := by
 obtain ⟨b, o, c, e, _, q, x⟩ := zc8 h h0
 injection e with e1 e2 e3
 exact ⟨b, o, e1, q, x⟩
section
variable {w : World} {b off : Nat} {l : List Ck} {i : Nat}
theorem zkh (h : w.rangeAt b off (zan Ecc l)) (hi : i < l.length) : ldA w (.pointer (some ⟨b, off + i * 33, none⟩)) 33 = some (cc (ckAt l i)) := by
 have := ztn h hi
 rw [zhw hi]
 exact this.trans (by rw [show (Ecc.enc l[i]).toArray = cc l[i] from Array.toList_inj.1 (by rw [zb3]; rfl)])
end
@[go_sem ↓] theorem yk5 (ρ : Operand → Value) (dst : Option Tmp) (x : Operand) (ty : TypeId) (pos : String) (after : Array Edge) (guard : Option (Nat × Bool)) (w : World) (hx : okA 33 (ρ x) = true) :
  (execOp ρ { dst, op := .buildSlice 35 1 #[(0, x)], type := ty, pos, after, guard }).run Tryz.prog w = .ok (.value (.slice (some ⟨w.heap.size, 0, none⟩) 1 1)) (w.alloc (.cells (zfz (ρ x)) 37)) := by
 obtain ⟨c, hc, hn⟩ : ∃ c, ρ x = .agg c ∧ c.size = 33 := by
  unfold okA at hx
  split at hx
  ·
   rename_i c hc
   rw [Bool.and_eq_true, beq_iff_eq] at hx
   exact ⟨c, hc, hx.1⟩
  ·
   cases hx
 have hp : (1 * 33 > 2 ^ 24) = False := by simp
 have h0 : (1 * 33 = 0) = False := by simp
 unfold execOp
 simp only [Instr.buildSlice, Sem.run_bind, run_underlying Tryz.underlying35, Result.andThen_ok, Tryz.sizeOf37, hp, h0, if_false, ztb, Value.cells]
 simp only [List.map_toArray, List.map_cons, List.map_nil, hc, Instr.fill, Value.cells, hn, Nat.zero_mul]
 simp [zfz]
 rw [zj6 _ c (by simp [hn])]
 rfl
theorem zl5 (w : World) (x : Ck) (b : Nat) (hb : b = w.heap.size) : SlE Ecc (w.alloc (.cells (cc x) 37)) (.slice (some ⟨b, 0, none⟩) 1 1) [x] :=
 ze9 w _ 1 _ _ b rfl hb (by simp [zan, Ecc, zb3])
theorem zmw {w : World} {g : Nat} {c r : Ck} (hg : w.heap[g]? = some (.cells (cc c) 37 (0, 0))) : (stA w (.pointer (some ⟨g, 0, none⟩)) (.agg (cc r))).heap[g]? = some (.cells (cc r) 37 (0, 0)) := by
 rw [zbu hg (by rw [za1, za1]; omega)]
 congr 2
 apply Array.toList_inj.1
 unfold zax
 simp only [List.take_zero, List.nil_append, Nat.zero_add]
 rw [List.drop_of_length_le (by rw [Array.length_toList, za1, za1]; omega), List.append_nil]
theorem zk5 {w : World} {p : Option Addr} {n cp : Nat} {l : List Lt} (h : SlE Elt w (.slice p n cp) l) (h0 : 0 < l.length) : ∃ b o, p = some ⟨b, o, none⟩ ∧ b < w.heap.size ∧ w.rangeAt b o (zan Elt l) := by
 obtain ⟨b, o, c, e, _, q, x⟩ := zc8 h h0
 injection e with e1 e2 e3
 exact ⟨b, o, e1, q, x⟩
theorem zjp {w : World} {b off : Nat} {l : List Lt} (h : w.rangeAt b off (zan Elt l)) {i : Nat} (hi : i < l.length) : ldA w (.pointer (some ⟨b, off + i * 34, none⟩)) 34 = some (lt (lat l i)) := by
 have := ztn h hi
 rw [zti hi]
 exact this.trans (by rw [show (Elt.enc l[i]).toArray = lt l[i] from Array.toList_inj.1 (by rw [zxy]; rfl)])
theorem zgc {w : World} {g : Nat} {x : Lt} (h : w.heap[g]? = some (.cells (lt x) 108 (0, 0))) : w.cell? ⟨g, 0, none⟩ = some (.bool x.has) ∧ ldA w (.pointer (some ⟨g, 1, none⟩)) 32 = some (rc x.root) ∧ w.cell? ⟨g, 33, none⟩ = some (.int .u64 (x.epoch.toNat : Int)) ∧ ldA w (.pointer (some ⟨g, 0, none⟩)) 34 = some (lt x) ∧ g < w.heap.size :=
 ⟨zux h, zsh h, z0o h, zaf h (ztg x), (Array.getElem?_eq_some_iff.1 h).1⟩
theorem zbn {w : World} {g : Nat} {x : Vo} (h : w.heap[g]? = some (.cells (vo x) 32 (0, 0))) : w.cell? ⟨g, 0, none⟩ = some (sv x.l) ∧ w.cell? ⟨g, 1, none⟩ = some (.int .u64 (x.out.toNat : Int)) ∧ ldA w (.pointer (some ⟨g, 0, none⟩)) 2 = some (vo x) ∧ g < w.heap.size :=
 ⟨yjv h, ybb h, zaf h (zaz x), (Array.getElem?_eq_some_iff.1 h).1⟩
theorem ziu {w : World} {s : SlV} {l : List Lt} (h : SlE Elt w (sv s) l) : l.length = s.len := by
 obtain ⟨p', cap', e, _⟩ := zaj h
 unfold sv at e; injection e with _ e; exact e.symm
theorem zzv {w : World} {base : Nat} {v : Value} {b : List Lt} {n : Nat} (h : OwnE Elt w base v b) (hn : b.length = n) (h0 : 0 < n) : ∃ g cap, v = .slice (some ⟨g, 0, none⟩) n cap ∧ base ≤ g := by
 subst hn
 rcases h.2 with ⟨_, e⟩ | ⟨g, cap, cur, e, hb, _⟩
 ·
  omega
 ·
  exact ⟨g, cap, e, hb⟩
def VoOk (v : Vt) (b : Bool) (w : World) (e : Ending) (w' : World) : Prop := ∃ s : SlV, e = .returned (.tuple #[.agg (vo ⟨s, v.out⟩), .bool b]) ∧ SlE Elt w' (sv s) v.l ∧ Below w.heap.size w w'
def VoEr (v : Vt) (k n : Nat) (w : World) (e : Ending) (w' : World) : Prop := ∃ s : SlV, e = .returned (.tuple #[.agg (vo ⟨s, v.out⟩), .int .i64 (k : Int), .int .i64 (n : Int)]) ∧ SlE Elt w' (sv s) v.l ∧ Below w.heap.size w w'
open Go.RowKit
theorem zwk {α : Type} {E : Lie α} {w : World} {v : Value} {l : List α} {T : Nat} {c : Array Value} {t : TypeId} {fr : Nat × Nat} (h : SlE E w v l) (hl : 0 < l.length) (hT : w.heap[T]? = some (.cells c t fr)) (hb : v.ownBlock = some T) : ∃ off : Nat, ∀ (j : Nat) (u : Value), (zan E l)[j]? = some u → c[off + j]? = some u := by
 obtain ⟨b, off, cap, rfl, _, _, hr⟩ := zc8 h hl
 obtain rfl : b = T := Option.some.inj hb
 refine ⟨off, fun j u hu => ?_⟩
 have := hr j u hu
 rwa [cell_of_row _ _ _ _ _ _ hT] at this
theorem zco {α : Type} {E : Lie α} {w : World} {v y : Value} {l : List α} {T : Nat} (h : SlE E w v l) (hb : 0 < l.length → v.ownBlock ≠ some T) : SlE E (stA w (.pointer (some ⟨T, 0, none⟩)) y) v l := by
 by_cases hl : 0 < l.length
 ·
  exact ze5 h (by rw [zmr]; exact Nat.le_refl _) (fun k _ hk => zc0 (fun e => hb hl (by rw [hk, e])))
 ·
  obtain rfl : l = [] := List.length_eq_zero_iff.1 (by omega)
  obtain ⟨p, cap, rfl, _⟩ := h
  exact zbt _ _ _ _
theorem zxf {i : Nat} {u : Value} (h : (en zen)[i]? = some u) : (enL zen)[i]? = some u := by rwa [← z3h, Array.getElem?_toList]
theorem zh6 {c r : Array Value} (h : r.size = c.size) : zax c 0 r = r := by
 apply Array.toList_inj.1
 unfold zax
 simp only [List.take_zero, List.nil_append, Nat.zero_add]
 rw [List.drop_of_length_le (by rw [Array.length_toList]; omega), List.append_nil]
def isIB : Value → Bool
 | .int .i64 _ => true
 | .bool _ => true
 | _ => false
theorem yt1 : (enL zen).all (fun v => !isIB v) = true := by kernel_rfl
theorem z2h {i : Nat} {u : Value} (h : (en zen)[i]? = some u) : isIB u = false := by
 have := List.all_eq_true.1 yt1 u (List.mem_of_getElem? (zxf h))
 simpa using this
theorem yji {W : World} {T : Nat} {s1 s2 sb sw sj : SlV} {r : Rt} {bal : List UInt64} (hT : W.heap[T]? = some (.cells (en zen) 39 (0, 0))) (h1 : SlE Ene W (sv s1) [⟨r, -1, 0, 0⟩]) (h2 : SlE Elt W (sv s2) (newV (bal.length : Int)).l)
  (hb : SlE Enum W (sv sb) bal) (ob : (sv sb).ownBlock ≠ some T) (hw : SlE Enum W (sv sw) [0]) (ow : (sv sw).ownBlock ≠ some T) (hj : SlE Ecc W (sv sj) [⟨0, r⟩]) (oj : (sv sj).ownBlock ≠ some T) (y : Value) :
  LaidG (stA W (.pointer (some ⟨T, 0, none⟩)) y) ⟨⟨s1⟩, sb, ⟨s2, (newV (bal.length : Int)).out⟩, sw, ⟨none, 0, 0⟩, ⟨none, 0, 0⟩, sj, ⟨0, r⟩, 0⟩ (newG r bal) := by
 refine ⟨zco h1 fun h0 e => ?_, zco hb fun _ => ob, zco h2 fun h0 e => ?_, zco hw fun _ => ow, zbt _ _ _ _, zbt _ _ _ _, zco hj fun _ => oj, rfl, rfl, rfl⟩
 ·
  obtain ⟨off, ho⟩ := zwk h1 h0 hT e
  have e1 : (zan Ene [⟨r, -1, 0, 0⟩])[32]? = some (.int .i64 (-1)) := by
   have := zgl ⟨r, -1, 0, 0⟩
   rw [zec, List.getElem?_append_left (by rw [Ene.len]; decide)]
   show (neL _)[32]? = _
   rwa [← zpt, Array.getElem?_toList]
  have := z2h (ho 32 _ e1)
  cases this
 ·
  obtain ⟨off, ho⟩ := zwk h2 h0 hT e
  have h0' : 0 < (newV (bal.length : Int)).l.length := h0
  clear h0 h2 e
  generalize (newV (bal.length : Int)).l = l at ho h0'
  cases l with
  | nil => cases h0'
  | cons x xs =>
   have e1 : (zan Elt (x :: xs))[0]? = some (.bool x.has) := by
    rw [zec, List.getElem?_append_left (by rw [Elt.len]; decide)]
    show (ltL x)[0]? = _
    have := zof x
    rwa [← zxy, Array.getElem?_toList]
   have := z2h (ho 0 _ e1)
   cases this
theorem yfy (W : World) : LaidG W zen yag := ⟨zbt _ _ _ _, zbt _ _ _ _, zbt _ _ _ _, zbt _ _ _ _, zbt _ _ _ _, zbt _ _ _ _, zbt _ _ _ _, rfl, rfl, rfl⟩
theorem zcu {b n c : Nat} {T : Nat} (h : b ≠ T) : (Value.slice (some ⟨b, 0, none⟩) n c).ownBlock ≠ some T := fun e => h (Option.some.inj e)
theorem zty {α : Type} {E : Lie α} {w : World} {base T : Nat} {v : Value} {l : List α} (h : OwnE E w base v l) (hT : T < base) : v.ownBlock ≠ some T := fun e => by
 have := (h.lt T e).1
 omega
section
variable {P : Program} {ops : Array Oper} {S1 E : List Nat} {B : Nat} {W : World} {Q : Exit → Act → World → Prop} {fuel : Nat} {listed : Array Bool} {a : Act} {w : World} {σ : List (Nat × World)}
theorem GX.branch3 (i j k : Nat) (hr : Region.ready .any ops listed = [i, j, k]) (h : xOp2 (La B) (Lb B) S1 P ops E W i (fun a' w' σ' => GX B S1 P ops E W Q fuel (listed.setIfInBounds i true) a' w' σ') a w σ) (h' : xOp2 (La B) (Lb B) S1 P ops E W j (fun a' w' σ' => GX B S1 P ops E W Q fuel (listed.setIfInBounds j true) a' w' σ') a w σ) (h'' : xOp2 (La B) (Lb B) S1 P ops E W k (fun a' w' σ' => GX B S1 P ops E W Q fuel (listed.setIfInBounds k true) a' w' σ') a w σ) : GX B S1 P ops E W Q (fuel + 1) listed a w σ := by
 unfold GX
 intro hv
 refine ⟨fun e => (by rw [hr] at e; cases e), fun m hm => ?_⟩
 have hm' := hm
 rw [hr, List.mem_cons, List.mem_cons, List.mem_singleton] at hm
 rcases hm with rfl | rfl | rfl
 ·
  exact zg2 (two B) hv hm' (fun _ _ _ hv' hk => by unfold GX at hk; exact hk hv') h
 ·
  exact zg2 (two B) hv hm' (fun _ _ _ hv' hk => by unfold GX at hk; exact hk hv') h'
 ·
  exact zg2 (two B) hv hm' (fun _ _ _ hv' hk => by unfold GX at hk; exact hk hv') h''
end
section
structure EngC : Prop where
 new : ∀ (r : Rt) (v : Value) (bal : List UInt64) (w : World), SlE Enum w v bal → bal.length ≤ 1000 → Calls Tryz.prog 11 #[.agg (rc r), v] w (EgOk (if mayB bal = true then newG r bal else yag) (mayB bal) w)
 may : ∀ (x : En) (g : Eg) (w : World), LaidG w x g → zbz g → Calls Tryz.prog 14 #[.agg (en x)] w (fun e w' => e = .returned (.bool (mayG g)) ∧ Below w.heap.size w w')
 same : ∀ (x y : En) (g f : Eg) (w : World), LaidG w x g → LaidG w y f → zbz g → zbz f → Calls Tryz.prog 18 #[.agg (en x), .agg (en y)] w (fun e w' => e = .returned (.bool (decide (g = f))) ∧ Below w.heap.size w w')
 block : ∀ (x : En) (g : Eg) (b : Bk) (w : World), LaidG w x g → zbz g → Calls Tryz.prog 28 #[.agg (en x), .agg (bk b)] w (EgEr (blkG g b) (ze6 g b) w)
 att : ∀ (x : En) (g : Eg) (a : Aa) (w : World), LaidG w x g → zbz g → Calls Tryz.prog 24 #[.agg (en x), .agg (aa a)] w (EgEr (attG g a) (zft g a) w)
 tick : ∀ (x : En) (g : Eg) (w : World), LaidG w x g → zbz g → Calls Tryz.prog 25 #[.agg (en x)] w (EgEr (zd2 g) (zee g) w)
 prune : ∀ (x : En) (g : Eg) (w : World), LaidG w x g → zbz g → Calls Tryz.prog 21 #[.agg (en x)] w (EgEr (prG g) (zjg g) w)
 call : ∀ (x : En) (g : Eg) (c : Cl) (l : List UInt8) (w : World), LaidG w x g → zbz g → SlE Ebyt w (sv c.raw) l → l.length ≤ 1000 → Calls Tryz.prog 17 #[.agg (en x), .agg (cl c)] w (EgEr (doG g (zcd c.kind l)) (zfs g (zcd c.kind l)) w)
 put : ∀ (b : Bk) (w : World), Calls Tryz.prog 30 #[.agg (bk b)] w (fun e w' => ∃ s : SlV, e = .returned (sv s) ∧ SlE Ebyt w' (sv s) (zjy b) ∧ Below w.heap.size w w')
structure zt8 : Prop where
 find : ∀ (s : SlV) (l : List Nd) (r : Rt) (w : World), SlE Ene w (sv s) l → Calls Tryz.prog 15 #[.agg (tr ⟨s⟩), .agg (rc r)] w (fun e w' => e = .returned (.int .i64 (zay l r)) ∧ Below w.heap.size w w')
 above : ∀ (s : SlV) (l : List Nd) (i k : Int) (w : World), SlE Ene w (sv s) l → Calls Tryz.prog 20 #[.agg (tr ⟨s⟩), .int .i64 i, .int .i64 k] w (fun e w' => e = .returned (.bool (zcj l i k)) ∧ Below w.heap.size w w')
 at_ : ∀ (s : SlV) (l : List Nd) (i : Int) (q : UInt64) (w : World), SlE Ene w (sv s) l → Calls Tryz.prog 23 #[.agg (tr ⟨s⟩), .int .i64 i, .int .u64 (q.toNat : Int)] w (fun e w' => e = .returned (.int .i64 (atZ l i q.toNat)) ∧ Below w.heap.size w w')
 best : ∀ (s : SlV) (v : Value) (l : List Nd) (js : List Ck) (fin : Ck) (w : World), SlE Ene w (sv s) l → SlE Ecc w v js → l.length ≤ 1000 → js.length ≤ 1000 → Calls Tryz.prog 22 #[.agg (tr ⟨s⟩), v, .agg (cc fin)] w (fun e w' => e = .returned (.agg (cc (zzx l js fin))) ∧ Below w.heap.size w w')
theorem zb5 : ∀ args w, (callFunc 15 args).run Tryz.prog w = .ok (.enter 15 args) w := zbb Tryz.func15 (by kernel_rfl) (by kernel_rfl)
theorem zb0 : ∀ args w, (callFunc 20 args).run Tryz.prog w = .ok (.enter 20 args) w := zbb Tryz.func20 (by kernel_rfl) (by kernel_rfl)
theorem zdo : ∀ args w, (callFunc 22 args).run Tryz.prog w = .ok (.enter 22 args) w := zbb Tryz.func22 (by kernel_rfl) (by kernel_rfl)
theorem zln : ∀ args w, (callFunc 18 args).run Tryz.prog w = .ok (.enter 18 args) w := zbb Tryz.func18 (by kernel_rfl) (by kernel_rfl)
theorem zjn : ∀ args w, (callFunc 17 args).run Tryz.prog w = .ok (.enter 17 args) w := zbb Tryz.func17 (by kernel_rfl) (by kernel_rfl)
theorem zlm : ∀ args w, (callFunc 30 args).run Tryz.prog w = .ok (.enter 30 args) w := zbb Tryz.func30 (by kernel_rfl) (by kernel_rfl)
def e0 : Eg := newG r1 [1, 1, 1]
def e1 : Eg := zd2 e0
def b2 : Bk := ⟨r2, r1, 1, 0⟩
def e2 : Eg := blkG e1 b2
theorem ynw : mayB [1, 1, 1] = true ∧ mayG e0 = true ∧ zee e0 = 0 ∧ ze6 e1 b2 = 0 ∧ e2.t.length = 2 ∧ e2.now = 1 := by decide +kernel
theorem yub : (fewG e0 = true ∧ fewG e1 = true) ∧ fewG e2 = true := by decide +kernel
theorem yrx : zcd 0 (zjy b2) = .block b2 := by
 unfold zcd
 rw [if_pos rfl, if_pos (yga b2), ya7 b2]
def CutG (W0 : World) (g : Eg) (t n : Value) (wx : World) : Prop := ∃ (T : Nat) (x : En), t = .pointer (some ⟨T, 0, none⟩) ∧ n = .int .i64 0 ∧ wx.heap[T]? = some (.cells (en x) 39 (0, 0)) ∧ LaidG wx x g ∧ Below W0.heap.size W0 wx
theorem yel : (e2.late = [] ∧ e2.k = [] ∧ e2.bal = [1, 1, 1]) ∧ e2.w = [0, 0] ∧ e2.j = [⟨0, r1⟩] ∧ e2.v.l.length = 3 := by decide +kernel
def yuw : Value → Bool
 | .int .u64 n => decide (n = 1)
 | .int .u8 n => decide (n = 1)
 | _ => false
def z7y : Value → Bool
 | .int .u64 _ => true
 | _ => false
theorem yp0 : (enL zen).all (fun v => !yuw v) = true := by kernel_rfl
theorem yqd : (List.range 42).all (fun i => !(((enL zen)[i]?).map z7y == some true && ((enL zen)[i + 1]?).map z7y == some true)) = true := by kernel_rfl
theorem ycm {i : Nat} {u : Value} (h : (en zen)[i]? = some u) : yuw u = false := by
 have := List.all_eq_true.1 yp0 u (List.mem_of_getElem? (zxf h))
 simpa using this
theorem yne {i : Nat} {u v : Value} (h : (en zen)[i]? = some u) (k : (en zen)[i + 1]? = some v) : ¬ (z7y u = true ∧ z7y v = true) := by
 rintro ⟨h1, h2⟩
 have hi : i < 42 := by have := (Array.getElem?_eq_some_iff.1 h).1; rwa [zas] at this
 have := List.all_eq_true.1 yqd i (List.mem_range.2 hi)
 rw [zxf h, zxf k] at this
 simp [h1, h2] at this
theorem ykl {W : World} {T : Nat} {x : En} (h : LaidG W x e2) (hT : W.heap[T]? = some (.cells (en zen) 39 (0, 0))) (y : Value) : LaidG (stA W (.pointer (some ⟨T, 0, none⟩)) y) x e2 := by
 obtain ⟨⟨p1, p2, p3⟩, p4, p5, p6⟩ := yel
 have hlen : e2.t.length = 2 := ynw.2.2.2.2.1
 have far : ∀ {α : Type} {E : Lie α} {v : Value} {l : List α}, SlE E W v l → 42 < l.length * E.n → v.ownBlock ≠ some T := fun {α E v l} hs hn hb => by
  have h0 : 0 < l.length := by
   rcases Nat.eq_zero_or_pos l.length with e | e
   ·
    rw [e, Nat.zero_mul] at hn; omega
   ·
    exact e
  obtain ⟨off, ho⟩ := zwk hs h0 hT hb
  have hc : 42 < (zan E l).length := by rw [zbd]; exact hn
  have := ho 42 _ (List.getElem?_eq_getElem hc)
  have := (Array.getElem?_eq_some_iff.1 this).1
  rw [zas] at this
  omega
 refine ⟨zco h.t fun _ => far h.t (by rw [hlen]; decide), zco h.bal fun h0 hb => ?_, zco h.v fun _ => far h.v (by rw [p6]; decide), zco h.w fun h0 hb => ?_, zco h.late fun h0 => ?_, zco h.k fun h0 => ?_, zco h.j fun h0 hb => ?_, h.out, h.fin, h.now⟩
 ·
  obtain ⟨off, ho⟩ := zwk h.bal h0 hT hb
  rw [p3] at ho
  have := ycm (ho 0 (num 1) rfl)
  cases this
 ·
  obtain ⟨off, ho⟩ := zwk h.w h0 hT hb
  rw [p4] at ho
  exact yne (ho 0 (num 0) rfl) (ho 1 (num 0) rfl) ⟨rfl, rfl⟩
 ·
  rw [p1] at h0; cases h0
 ·
  rw [p2] at h0; cases h0
 ·
  obtain ⟨off, ho⟩ := zwk h.j h0 hT hb
  rw [p5] at ho
  have h1 : (zan Ecc [⟨0, r1⟩])[1]? = some (.int .u8 1) := by kernel_rfl
  have := ycm (ho 1 _ h1)
  cases this
@[local go_sem] theorem yyq (x : Bk) : zax (bk x) 64 #[.int .u64 1] = bk { x with slot := 1 } := zre x 1
@[local go_sem] theorem yzd : ({ root := r2, parent := r1, slot := 1, just := zbk.just } : Bk) = b2 := rfl
@[local go_sem] theorem yy5 : ({ root := r2, parent := r1, slot := 1, just := 0 } : Bk) = b2 := rfl
theorem yss (w : World) (b : Nat) (hb : b = w.heap.size) : SlE Enum (w.alloc (.cells #[.int .u64 1, .int .u64 1, .int .u64 1] 30)) (.slice (some ⟨b, 0, none⟩) 3 3) [1, 1, 1] :=
 ze9 w _ 3 _ _ b rfl hb (by kernel_rfl)
theorem zfb (H : EngC) (w : World) : Calls Tryz.prog 10 #[] w fun e w' => e = .returned (.bool true) ∧ Below w.heap.size w w' := by
 obtain ⟨x1, x2, x3, x4, x5, x6⟩ := ynw
 obtain ⟨⟨s0, s1⟩, s2⟩ := yub
 replace s0 := (zev s0).1
 replace s1 := (zev s1).1
 replace s2 := (zev s2).1
 have HN := Lib.hid (fun v W (h : SlE Enum W v [1, 1, 1]) => H.new r1 v [1, 1, 1] W h (by decide))
 rw [x1, if_pos rfl, show newG r1 [1, 1, 1] = e0 from rfl] at HN
 have HT := Lib.hid (fun x W h => H.tick x e0 W h s0)
 rw [x3, show zd2 e0 = e1 from rfl] at HT
 have HD : Hid (∀ (x : En) (s : SlV) (W : World), LaidG W x e1 → SlE Ebyt W (sv s) (zjy b2) → Calls Tryz.prog 17 #[.agg (en x), .agg (cl ⟨0, s, zr, zr, 0⟩)] W (EgEr e2 0 W)) := fun x s W h hs => by
  have := H.call x e1 ⟨0, s, zr, zr, 0⟩ (zjy b2) W h s1 hs (by rw [zqa]; decide)
  rw [show zcd (Cl.mk 0 s zr zr 0).kind (zjy b2) = .block b2 from yrx] at this
  rw [show zfs e1 (.block b2) = 0 from x4] at this
  exact this
 have HP := Lib.hid (fun W => H.put b2 W)
 have HM := Lib.hid (fun x W h => H.may x e0 W h s0)
 rw [x2] at HM
 have HS := Lib.hid (fun x y W h h' => H.same x y e2 e2 W h h' s2 s2)
 rw [decide_eq_true rfl] at HS
 have X5 := Lib.hid x5
 have X6 := Lib.hid x6
 have HLP : Hid (∀ {W : World} {T : Nat} {x : En}, LaidG W x e2 → W.heap[T]? = some (.cells (en zen) 39 (0, 0)) → ∀ y, LaidG (stA W (.pointer (some ⟨T, 0, none⟩)) y) x e2) := fun h hT y => ykl h hT y
 generalize zjy b2 = RB at *
 generalize e0 = E0 at *
 generalize e1 = E1 at *
 generalize e2 = E2 at *
 clear x1 x2 x3 x4 x5 x6 s0 s1 s2 H
 go_enter Tryz.func10, Tryz.ntmps10
 go_wp2_with fail
 refine (HN.out _ _ (yss w _ (by simp))).mono ?_
 rintro e w1 ⟨x1, rfl, h1, g1⟩
 have A := Lib.hid (zi6 (zad below1 g1) h1)
 clear h1 g1
 have z1 := A.out.z
 go_wp2_with fail
 refine (HT.out _ _ A.out.l).mono ?_
 rintro e w2 ⟨x2, rfl, h2, g2⟩
 go_upto_region 3 with fail
 obtain ⟨W2, hW2⟩ : ∃ W2, W2 = w2.alloc (.cells (en x2) 39) := ⟨_, rfl⟩
 have hB : Gv w W2 w2.heap.size x2 E1 := by rw [hW2]; exact zi6 (zad A.out.g g2) h2
 have B := Lib.hid hB
 replace A := Lib.hid (A.out.keep (W' := W2) (zad g2 (by rw [hW2]; exact below1)))
 rw [← hW2]
 clear hW2 h2 g2 hB z1
 have zq := B.out.z
 have hlt := B.out.lt
 go_cut [5, 6] from 18 to 28 (fun t n wx => CutG W2 E2 t n wx)
 case first =>
  have hwB : W2.heap.size ≤ W2.drew.heap.size := Nat.le_refl _
  have Q0 := zva (B := W2.heap.size) zq hlt
  clear zq hlt
  refine zl2 W2.heap.size [] [4, 6, 10, 11] (by kernel_rfl) ?_
  refine GX.take2 0 rfl rfl rfl (by kernel_rfl) (by kernel_rfl) (by kernel_rfl) rfl hwB ?_
  (first | go_big_quiet_step (fail) | quiet_step (fail)); refine wpQuiet_nil ?_
  refine GX.take2 1 rfl rfl rfl (by kernel_rfl) (by kernel_rfl) (by kernel_rfl) rfl hwB ?_
  (first | go_big_quiet_step (fail) | quiet_step (fail)); refine wpQuiet_nil ?_
  refine GX.take2 2 rfl rfl rfl (by kernel_rfl) (by kernel_rfl) (by kernel_rfl) rfl hwB ?_
  (first | go_big_quiet_step (fail) | quiet_step (fail)); refine wpQuiet_nil ?_
  refine GX.take2 3 rfl rfl rfl (by kernel_rfl) (by kernel_rfl) (by kernel_rfl) rfl hwB ?_
  (first | go_big_quiet_step (fail) | quiet_step (fail)); refine wpQuiet_nil ?_
  refine GX.branch2 4 10 (by kernel_rfl) ?_ ?_
  ·
   refine zfo rfl rfl rfl rfl zlm #[.agg (bk b2)] rfl ?_
   refine (HP.out _).mono ?_
   rintro e u ⟨⟨sp, sn, sc⟩, rfl, hs, g⟩
   rw [zat] at hs ⊢
   refine ⟨_, rfl, g, ?_⟩
   simp only [Act.put, List.setIfInBounds_toArray, List.set_cons_zero, List.set_cons_succ]
   have gu : Below W2.heap.size W2 u := zad (zap (Below.refl _ _) 1) g
   clear g
   refine GX.take2 5 rfl rfl rfl (by kernel_rfl) (by kernel_rfl) (by kernel_rfl) rfl hwB ?_
   (first | go_big_quiet_step (fail) | quiet_step (fail)); refine wpQuiet_nil ?_
   refine GX.branch2 6 10 (by kernel_rfl) ?_ ?_
   ·
    refine zfo rfl rfl rfl rfl zjn #[.agg (en x2), .agg (cl ⟨0, ⟨sp, sn, sc⟩, zr, zr, 0⟩)] rfl ?_
    refine (HD.out x2 ⟨sp, sn, sc⟩ _ (B.out.l.keep gu) hs).mono ?_
    rintro e u2 ⟨x3, rfl, h3, g⟩
    refine ⟨_, rfl, g, ?_⟩
    simp only [Act.put, List.setIfInBounds_toArray, List.set_cons_zero, List.set_cons_succ]
    have gd : Below W2.heap.size W2 u2 := zad gu g
    clear g
    refine GX.take2 7 rfl rfl rfl (by kernel_rfl) (by kernel_rfl) (by kernel_rfl) rfl hwB ?_
    (first | go_big_quiet_step (fail) | quiet_step (fail)); refine wpQuiet_nil ?_
    refine GX.take2 8 rfl rfl rfl (by kernel_rfl) (by kernel_rfl) (by kernel_rfl) rfl hwB ?_
    (first | go_big_quiet_step (fail) | quiet_step (fail)); refine wpQuiet_nil ?_
    refine GX.take2 9 rfl rfl rfl (by kernel_rfl) (by kernel_rfl) (by kernel_rfl) rfl hwB ?_
    (first | go_big_quiet_step (fail) | quiet_step (fail)); refine wpQuiet_nil ?_
    refine GX.branch1 10 (by kernel_rfl) ?_
    refine zef rfl rfl rfl (.pointer (some ⟨u2.heap.size, 0, none⟩)) (u2.alloc (.cells (en zen) 39)) (by go_simp) (zcw below1) ?_
    simp only [Act.put, List.setIfInBounds_toArray, List.set_cons_zero, List.set_cons_succ]
    have hn : (u2.alloc (.cells (en zen) 39)).heap[u2.heap.size]? = some (.cells (en zen) 39 (0, 0)) := heap_alloc_last u2 _
    have ga : Below W2.heap.size W2 (u2.alloc (.cells (en zen) 39)) := zad gd below1
    obtain ⟨W5, hW5⟩ : ∃ W, W = u2.alloc (.cells (en zen) 39) := ⟨_, rfl⟩
    rw [← hW5] at hn ga ⊢
    have h5 := h3.keep (W' := W5) (by rw [hW5]; exact below1)
    clear hW5
    have yw := za8 hn (zas _)
    refine GX.branch1 11 (by kernel_rfl) ?_
    refine zg8 rfl rfl rfl (stA W5 (.pointer (some ⟨u2.heap.size, 0, none⟩)) (.agg (en x3))) (by go_simp) (zcr (by kernel_rfl) (zav (Below.refl _ _) gd.size)) ?_
    simp only [Act.put]
    have HR : Hid (CutG W2 E2 (.pointer (some ⟨u2.heap.size, 0, none⟩)) (.int .i64 0) (stA W5 (.pointer (some ⟨u2.heap.size, 0, none⟩)) (.agg (en x3)))) := ⟨_, x3, rfl, rfl, by rw [zbu hn (by rw [zas, zas]; decide)]; congr 2; exact zh6 (by rw [zas, zas]), HLP.out h5 hn _, zav ga gd.size⟩
    clear yw
    refine GX.take2 12 rfl rfl rfl (by kernel_rfl) (by kernel_rfl) (by kernel_rfl) rfl hwB ?_
    (first | go_big_quiet_step (fail) | quiet_step (fail)); refine wpQuiet_nil ?_
    refine GX.nil (by kernel_rfl) ?_
    clear Q0 hwB
    go_wp2_with fail
    go_meet
    exact HR.out
   ·
    refine zef rfl rfl rfl (.pointer (some ⟨u.heap.size, 0, none⟩)) (u.alloc (.cells (en zen) 39)) (by go_simp) (zcw below1) ?_
    simp only [Act.put, List.setIfInBounds_toArray, List.set_cons_zero, List.set_cons_succ]
    have hn : (u.alloc (.cells (en zen) 39)).heap[u.heap.size]? = some (.cells (en zen) 39 (0, 0)) := heap_alloc_last u _
    have ga : Below W2.heap.size W2 (u.alloc (.cells (en zen) 39)) := zad gu below1
    obtain ⟨W5, hW5⟩ : ∃ W, W = u.alloc (.cells (en zen) 39) := ⟨_, rfl⟩
    rw [← hW5] at hn ga ⊢
    have hs5 := zac (w' := W5) (by rw [hW5]; exact below1) hs
    clear hW5
    refine GX.branch1 6 (by kernel_rfl) ?_
    refine zfo rfl rfl rfl rfl zjn #[.agg (en x2), .agg (cl ⟨0, ⟨sp, sn, sc⟩, zr, zr, 0⟩)] rfl ?_
    refine (HD.out x2 ⟨sp, sn, sc⟩ _ (B.out.l.keep ga) hs5).mono ?_
    rintro e u2 ⟨x3, rfl, h3, g⟩
    refine ⟨_, rfl, g, ?_⟩
    simp only [Act.put, List.setIfInBounds_toArray, List.set_cons_zero, List.set_cons_succ]
    have gd : Below W2.heap.size W2 u2 := zad ga g
    have hn2 := zab g hn
    clear g
    refine GX.take2 7 rfl rfl rfl (by kernel_rfl) (by kernel_rfl) (by kernel_rfl) rfl hwB ?_
    (first | go_big_quiet_step (fail) | quiet_step (fail)); refine wpQuiet_nil ?_
    refine GX.take2 8 rfl rfl rfl (by kernel_rfl) (by kernel_rfl) (by kernel_rfl) rfl hwB ?_
    (first | go_big_quiet_step (fail) | quiet_step (fail)); refine wpQuiet_nil ?_
    refine GX.take2 9 rfl rfl rfl (by kernel_rfl) (by kernel_rfl) (by kernel_rfl) rfl hwB ?_
    (first | go_big_quiet_step (fail) | quiet_step (fail)); refine wpQuiet_nil ?_
    have yw := za8 hn2 (zas _)
    refine GX.branch1 11 (by kernel_rfl) ?_
    refine zg8 rfl rfl rfl (stA u2 (.pointer (some ⟨u.heap.size, 0, none⟩)) (.agg (en x3))) (by go_simp) (zcr (by kernel_rfl) (zav (Below.refl _ _) gu.size)) ?_
    simp only [Act.put]
    have HR : Hid (CutG W2 E2 (.pointer (some ⟨u.heap.size, 0, none⟩)) (.int .i64 0) (stA u2 (.pointer (some ⟨u.heap.size, 0, none⟩)) (.agg (en x3)))) := ⟨_, x3, rfl, rfl, by rw [zbu hn2 (by rw [zas, zas]; decide)]; congr 2; exact zh6 (by rw [zas, zas]), HLP.out h3 hn2 _, zav gd gu.size⟩
    clear yw
    refine GX.take2 12 rfl rfl rfl (by kernel_rfl) (by kernel_rfl) (by kernel_rfl) rfl hwB ?_
    (first | go_big_quiet_step (fail) | quiet_step (fail)); refine wpQuiet_nil ?_
    refine GX.nil (by kernel_rfl) ?_
    clear Q0 hwB
    go_wp2_with fail
    go_meet
    exact HR.out
  ·
   refine zef rfl rfl rfl (.pointer (some ⟨W2.heap.size, 0, none⟩)) (W2.drew.alloc (.cells (en zen) 39)) (by go_simp) (zcw below1) ?_
   simp only [Act.put, List.setIfInBounds_toArray, List.set_cons_zero, List.set_cons_succ]
   have hn : (W2.drew.alloc (.cells (en zen) 39)).heap[W2.heap.size]? = some (.cells (en zen) 39 (0, 0)) := heap_alloc_last W2.drew _
   have ga : Below W2.heap.size W2 (W2.drew.alloc (.cells (en zen) 39)) := zad (zap (Below.refl _ _) 1) below1
   obtain ⟨W5, hW5⟩ : ∃ W, W = W2.drew.alloc (.cells (en zen) 39) := ⟨_, rfl⟩
   rw [← hW5] at hn ga ⊢
   clear hW5
   refine GX.branch1 4 (by kernel_rfl) ?_
   refine zfo rfl rfl rfl rfl zlm #[.agg (bk b2)] rfl ?_
   refine (HP.out _).mono ?_
   rintro e u ⟨⟨sp, sn, sc⟩, rfl, hs, g⟩
   rw [zat] at hs ⊢
   refine ⟨_, rfl, g, ?_⟩
   simp only [Act.put, List.setIfInBounds_toArray, List.set_cons_zero, List.set_cons_succ]
   have gu : Below W2.heap.size W2 u := zad ga g
   have hn1 := zab g hn
   clear g
   refine GX.take2 5 rfl rfl rfl (by kernel_rfl) (by kernel_rfl) (by kernel_rfl) rfl hwB ?_
   (first | go_big_quiet_step (fail) | quiet_step (fail)); refine wpQuiet_nil ?_
   refine GX.branch1 6 (by kernel_rfl) ?_
   refine zfo rfl rfl rfl rfl zjn #[.agg (en x2), .agg (cl ⟨0, ⟨sp, sn, sc⟩, zr, zr, 0⟩)] rfl ?_
   refine (HD.out x2 ⟨sp, sn, sc⟩ _ (B.out.l.keep gu) hs).mono ?_
   rintro e u2 ⟨x3, rfl, h3, g⟩
   refine ⟨_, rfl, g, ?_⟩
   simp only [Act.put, List.setIfInBounds_toArray, List.set_cons_zero, List.set_cons_succ]
   have gd : Below W2.heap.size W2 u2 := zad gu g
   have hn2 := zab g hn1
   clear g
   refine GX.take2 7 rfl rfl rfl (by kernel_rfl) (by kernel_rfl) (by kernel_rfl) rfl hwB ?_
   (first | go_big_quiet_step (fail) | quiet_step (fail)); refine wpQuiet_nil ?_
   refine GX.take2 8 rfl rfl rfl (by kernel_rfl) (by kernel_rfl) (by kernel_rfl) rfl hwB ?_
   (first | go_big_quiet_step (fail) | quiet_step (fail)); refine wpQuiet_nil ?_
   refine GX.take2 9 rfl rfl rfl (by kernel_rfl) (by kernel_rfl) (by kernel_rfl) rfl hwB ?_
   (first | go_big_quiet_step (fail) | quiet_step (fail)); refine wpQuiet_nil ?_
   have yw := za8 hn2 (zas _)
   refine GX.branch1 11 (by kernel_rfl) ?_
   refine zg8 rfl rfl rfl (stA u2 (.pointer (some ⟨W2.heap.size, 0, none⟩)) (.agg (en x3))) (by go_simp) (zcr (by kernel_rfl) (zav (Below.refl _ _) (Nat.le_refl _))) ?_
   simp only [Act.put]
   have HR : Hid (CutG W2 E2 (.pointer (some ⟨W2.heap.size, 0, none⟩)) (.int .i64 0) (stA u2 (.pointer (some ⟨W2.heap.size, 0, none⟩)) (.agg (en x3)))) := ⟨_, x3, rfl, rfl, by rw [zbu hn2 (by rw [zas, zas]; decide)]; congr 2; exact zh6 (by rw [zas, zas]), HLP.out h3 hn2 _, zav gd (Nat.le_refl _)⟩
   clear yw
   refine GX.take2 12 rfl rfl rfl (by kernel_rfl) (by kernel_rfl) (by kernel_rfl) rfl hwB ?_
   (first | go_big_quiet_step (fail) | quiet_step (fail)); refine wpQuiet_nil ?_
   refine GX.nil (by kernel_rfl) ?_
   clear Q0 hwB
   go_wp2_with fail
   go_meet
   exact HR.out
 case rest =>
  obtain ⟨T, x3, rfl, rfl, hb, hl, hg⟩ := hcut
  have Cg : Hid (Gv w wc T x3 E2) := ⟨hb, hl, zad A.out.g hg⟩
  replace A := Lib.hid (A.out.keep hg)
  clear hb hl hg zq hlt B
  have z1 := A.out.z
  go_wp2_with fail
  refine (HM.out _ _ A.out.l).mono ?_
  rintro e w4 ⟨rfl, g⟩
  replace Cg := Lib.hid (Cg.out.keep g)
  clear z1 g A
  have z3 := Cg.out.z
  have zn := Cg.out.zn
  rw [X6.out, show ((1 : UInt64).toNat : Int) = 1 from rfl] at zn
  have zt := Cg.out.zt
  obtain ⟨⟨pt, nt, ct⟩, hs⟩ : ∃ s : SlV, s = x3.t.n := ⟨_, rfl⟩
  have hn := zck Cg.out.l.t
  rw [← hs, X5.out] at hn
  dsimp only at hn
  subst hn
  rw [← hs, zat] at zt
  clear hs
  go_wp2_with fail
  refine (HS.out _ _ _ Cg.out.l Cg.out.l).mono ?_
  rintro e w5 ⟨rfl, g⟩
  replace Cg := Lib.hid (Cg.out.keep g)
  clear g z3 zn zt
  go_wp2_with fail
  go_ret
  exact ⟨rfl, Cg.out.g⟩
end
end Go.Proofs.YtmihlihlpdkdcaaGreat
