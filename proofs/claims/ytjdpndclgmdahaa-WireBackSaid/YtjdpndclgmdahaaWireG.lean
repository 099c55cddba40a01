/-
  == of blocks and attestations in a walk.
-/
import Derived.Test.YtjdpndclgmdahaaWireF
namespace Go.Proofs.Ytjdpndclgmdahaa
open Go.RowKit

section
variable {P : Program}
theorem part_agg {T : TypeId} {n : Nat} (hA : ∀ w, (isAgg T).run P w = .ok true w) (hS : ∀ w, (Go.sizeOf T).run P w = .ok n w) (c : Array Value) (o : Nat) (w : World) : (part T c o).run P w = .ok (.agg (c.extract o (o + n))) w := by
  unfold part
  simp [hA, hS]
theorem part_one {T : TypeId} (hA : ∀ w, (isAgg T).run P w = .ok false w) (c : Array Value) (o : Nat) (v : Value) (h : c[o]? = some v) (w : World) : (part T c o).run P w = .ok v w := by
  unfold part
  simp [hA, h]
theorem extract_mid {c r : Array Value} {x z : List Value} {o n : Nat} (hc : c.toList = x ++ (r.toList ++ z)) (hx : x.length = o) (hr : r.size = n) : c.extract o (o + n) = r := by
  apply Array.toList_inj.1
  rw [Array.toList_extract, hc]
  show ((x ++ (r.toList ++ z)).drop o).take (o + n - o) = r.toList
  rw [List.drop_left' hx, List.take_left' (by rw [Array.length_toList, hr]; omega)]
end
def eqCk (x y : Ck) : Bool := decide (x = y)
def eqBlk (x y : Blk) : Bool := decide (x = y)
def eqAt (x y : At) : Bool := decide (x = y)
theorem num_beq (a b : UInt64) : ((a.toNat : Int) == (b.toNat : Int)) = decide (a = b) := by
  rw [Bool.eq_iff_iff, decide_eq_true_iff, beq_iff_eq]
  constructor
  · intro h; exact UInt64.toNat_inj.1 (by omega)
  · intro h; rw [h]
theorem get_at {c : Array Value} {x z : List Value} {o : Nat} {v : Value} (hc : c.toList = x ++ (v :: z)) (hx : x.length = o) : c[o]? = some v := by
  rw [← Array.getElem?_toList, hc, List.getElem?_append_right (by omega), show o - x.length = 0 by omega]
  rfl
theorem bc_r (b : Blk) : (bc b).extract 0 (0 + 32) = rc b.root := extract_mid (x := []) (bc_list b) rfl (rc_size _)
theorem bc_p (b : Blk) : (bc b).extract 32 (32 + 32) = rc b.parent := extract_mid (bc_list b) (rc_len _) (rc_size _)
theorem bc_s (b : Blk) : (bc b)[64]? = some (num b.slot) := get_at (x := (rc b.root).toList ++ (rc b.parent).toList) (by rw [bc_list]; simp; rfl) (by rw [List.length_append, rc_len, rc_len])
theorem bc_j (b : Blk) : (bc b)[65]? = some (num b.just) := get_at (x := (rc b.root).toList ++ ((rc b.parent).toList ++ [num b.slot])) (z := []) (by rw [bc_list]; simp) (by rw [List.length_append, List.length_append, rc_len, rc_len]; rfl)
theorem cc_e (x : Ck) : (cc x)[0]? = some (num x.epoch) := get_at (x := []) (cc_list x) rfl
theorem cc_r (x : Ck) : (cc x).extract 1 (1 + 32) = rc x.root := extract_mid (x := [num x.epoch]) (z := []) (by rw [cc_list]; simp) rfl (rc_size _)
theorem ac_v (a : At) : (ac a)[0]? = some (.int .i64 a.val) := get_at (x := []) (ac_list a) rfl
theorem ac_s (a : At) : (ac a)[1]? = some (num a.slot) := get_at (x := [.int .i64 a.val]) (ac_list a) rfl
theorem ac_h (a : At) : (ac a).extract 2 (2 + 32) = rc a.head := extract_mid (x := [.int .i64 a.val, num a.slot]) (ac_list a) rfl (rc_size _)
theorem ac_so (a : At) : (ac a).extract 34 (34 + 33) = cc a.source := extract_mid (x := .int .i64 a.val :: num a.slot :: (rc a.head).toList) (by rw [ac_list]; simp; rfl) (by simp [rc_size]) (cc_size _)
theorem ac_ta (a : At) : (ac a).extract 67 (67 + 33) = cc a.target := extract_mid (x := .int .i64 a.val :: num a.slot :: ((rc a.head).toList ++ (cc a.source).toList)) (z := []) (by rw [ac_list]; simp) (by simp [rc_size, cc_size]) (cc_size _)
theorem eqNum (n : Nat) (a b : UInt64) (w : World) : (Op.equalIn (n + 1) 24 (num a) (num b)).run Try.prog w = .ok (decide (a = b)) w := by
  unfold num
  rw [run_equalIn_int w n 24 .u64 .u64 _ _ Try.underlying24, num_beq]
theorem fldsB : (Try.prog.fieldsOf 26).toList.map (fun f => (f.name, f.type, f.offset)) = [("Root", 23, 0), ("Parent", 23, 32), ("Slot", 24, 64), ("Just", 24, 65)] := by kernel_rfl
/-- What is asked of a field: its name, type and place. -/
def fldOf (f : Field) : String × TypeId × Nat := (f.name, f.type, f.offset)
theorem eqF_nil {P : Program} {d : Nat} {xs ys : Array Value} {w : World} {fs : List Field} (hm : fs.map fldOf = []) : (Op.eqFields d xs ys fs).run P w = .ok true w := by
  rw [List.map_eq_nil_iff.1 hm]
  rfl
theorem eqF_cons {P : Program} {d : Nat} {xs ys : Array Value} {n : String} {T : TypeId} {o : Nat} {rest : List (String × TypeId × Nat)} {a b : Value} {r R : Bool} {w : World} {fs : List Field} (hm : fs.map fldOf = (n, T, o) :: rest) (hn : n ≠ "_") (ha : (part T xs o).run P w = .ok a w) (hb : (part T ys o).run P w = .ok b w) (he : (Op.equalIn d T a b).run P w = .ok r w)
    (hr : ∀ gs : List Field, gs.map fldOf = rest → (Op.eqFields d xs ys gs).run P w = .ok R w) : (Op.eqFields d xs ys fs).run P w = .ok (r && R) w := by
  obtain ⟨f, gs, rfl, hf, hg⟩ := List.map_eq_cons_iff.1 hm
  injection hf with h1 h2
  injection h2 with h2 h3
  subst h1 h2 h3
  have hR := hr gs hg
  simp only [Op.eqFields, if_pos hn, Sem.run_bind, ha, hb, he, Result.andThen_ok]
  cases r
  · simp
  · simpa using hR
theorem partR (c : Array Value) (o : Nat) (r : Rt) (h : c.extract o (o + 32) = rc r) (w : World) : (part 23 c o).run Try.prog w = .ok (.agg (rc r)) w := by
  rw [part_agg (P := Try.prog) Try.isAgg23 Try.sizeOf23, h]
theorem partC (c : Array Value) (o : Nat) (r : Ck) (h : c.extract o (o + 33) = cc r) (w : World) : (part 28 c o).run Try.prog w = .ok (.agg (cc r)) w := by
  rw [part_agg (P := Try.prog) Try.isAgg28 Try.sizeOf28, h]
theorem partN (c : Array Value) (o : Nat) (n : UInt64) (h : c[o]? = some (num n)) (w : World) : (part 24 c o).run Try.prog w = .ok (num n) w := part_one (P := Try.prog) Try.isAgg24 c o _ h w
theorem partI (c : Array Value) (o : Nat) (n : Int) (h : c[o]? = some (.int .i64 n)) (w : World) : (part 3 c o).run Try.prog w = .ok (.int .i64 n) w := part_one (P := Try.prog) Try.isAgg3 c o _ h w
@[go_sem ↓] theorem eqBlock (x y : Blk) (w : World) : (Op.equalIn 10000 26 (.agg (bc x)) (.agg (bc y))).run Try.prog w = .ok (eqBlk x y) w := by
  rw [show (10000 : Nat) = 9999 + 1 from rfl, run_equalIn_struct w 9999 _ _ _ underB (by kernel_rfl)]
  rw [eqF_cons fldsB (by decide) (partR _ _ _ (bc_r x) w) (partR _ _ _ (bc_r y) w) (eqRootN 9997 _ _ w) (fun _ h1 => eqF_cons h1 (by decide) (partR _ _ _ (bc_p x) w) (partR _ _ _ (bc_p y) w) (eqRootN 9997 _ _ w)
    (fun _ h2 => eqF_cons h2 (by decide) (partN _ _ _ (bc_s x) w) (partN _ _ _ (bc_s y) w) (eqNum 9998 _ _ w) (fun _ h3 => eqF_cons h3 (by decide) (partN _ _ _ (bc_j x) w) (partN _ _ _ (bc_j y) w) (eqNum 9998 _ _ w) (fun _ h4 => eqF_nil h4))))]
  congr 1
  unfold eqBlk eqB
  rw [Bool.eq_iff_iff]
  simp only [Bool.and_eq_true, decide_eq_true_iff, and_true]
  exact ⟨fun h => Blk.ext h.1 h.2.1 h.2.2.1 h.2.2.2, fun h => by subst h; exact ⟨rfl, rfl, rfl, rfl⟩⟩
theorem fldsC : (Try.prog.fieldsOf 28).toList.map (fun f => (f.name, f.type, f.offset)) = [("Epoch", 24, 0), ("Root", 23, 1)] := by kernel_rfl
theorem fldsA : (Try.prog.fieldsOf 30).toList.map (fun f => (f.name, f.type, f.offset)) = [("Val", 3, 0), ("Slot", 24, 1), ("Head", 23, 2), ("Source", 28, 34), ("Target", 28, 67)] := by kernel_rfl
theorem eqCheckN (x y : Ck) (w : World) : (Op.equalIn 9999 28 (.agg (cc x)) (.agg (cc y))).run Try.prog w = .ok (eqCk x y) w := by
  rw [show (9999 : Nat) = 9998 + 1 from rfl, run_equalIn_struct w 9998 _ _ _ underC (by kernel_rfl)]
  rw [eqF_cons fldsC (by decide) (partN _ _ _ (cc_e x) w) (partN _ _ _ (cc_e y) w) (eqNum 9997 _ _ w) (fun _ h1 => eqF_cons h1 (by decide) (partR _ _ _ (cc_r x) w) (partR _ _ _ (cc_r y) w) (eqRootN 9996 _ _ w) (fun _ h2 => eqF_nil h2))]
  congr 1
  unfold eqCk eqB
  rw [Bool.eq_iff_iff]
  simp only [Bool.and_eq_true, decide_eq_true_iff, and_true]
  exact ⟨fun h => Ck.ext h.1 h.2, fun h => by subst h; exact ⟨rfl, rfl⟩⟩
@[go_sem ↓] theorem eqAtt (x y : At) (w : World) : (Op.equalIn 10000 30 (.agg (ac x)) (.agg (ac y))).run Try.prog w = .ok (eqAt x y) w := by
  rw [show (10000 : Nat) = 9999 + 1 from rfl, run_equalIn_struct w 9999 _ _ _ underA (by kernel_rfl)]
  rw [eqF_cons fldsA (by decide) (partI _ _ _ (ac_v x) w) (partI _ _ _ (ac_v y) w) (run_equalIn_int w 9998 3 .i64 .i64 _ _ Try.underlying3) (fun _ h1 => eqF_cons h1 (by decide) (partN _ _ _ (ac_s x) w) (partN _ _ _ (ac_s y) w) (eqNum 9998 _ _ w)
    (fun _ h2 => eqF_cons h2 (by decide) (partR _ _ _ (ac_h x) w) (partR _ _ _ (ac_h y) w) (eqRootN 9997 _ _ w) (fun _ h3 => eqF_cons h3 (by decide) (partC _ _ _ (ac_so x) w) (partC _ _ _ (ac_so y) w) (eqCheckN _ _ w)
    (fun _ h4 => eqF_cons h4 (by decide) (partC _ _ _ (ac_ta x) w) (partC _ _ _ (ac_ta y) w) (eqCheckN _ _ w) (fun _ h5 => eqF_nil h5)))))]
  congr 1
  unfold eqAt eqB eqCk
  rw [Bool.eq_iff_iff]
  simp only [Bool.and_eq_true, decide_eq_true_iff, and_true, beq_iff_eq]
  exact ⟨fun h => At.ext h.1 h.2.1 h.2.2.1 h.2.2.2.1 h.2.2.2.2, fun h => by subst h; exact ⟨rfl, rfl, rfl, rfl, rfl⟩⟩
theorem eqBlk_self (x : Blk) : eqBlk x x = true := by simp [eqBlk]
theorem eqAt_self (x : At) : eqAt x x = true := by simp [eqAt]
end Go.Proofs.Ytjdpndclgmdahaa
