/-
  Package box: Post, Take, Close, walked.
-/
import Derived.Test.YtiljgnhnpoackaaBoxG
namespace Go.Proofs.Ytiljgnhnpoackaa
open Go.RowKit

theorem heap3 (w : World) (a b c : Array Value) (s t u : TypeId) (W : World) (hW : W = ((w.alloc (.cells a s)).alloc (.cells b t)).alloc (.cells c u)) : Below w.heap.size w W ∧ W.heap[w.heap.size]? = some (.cells a s (0, 0)) ∧ W.heap[w.heap.size + 1]? = some (.cells b t (0, 0)) ∧ W.heap[w.heap.size + 2]? = some (.cells c u (0, 0)) ∧ W.heap.size = w.heap.size + 3 := by
  subst hW
  have e1 : ∀ o : Obj, (w.alloc o).heap.size = w.heap.size + 1 := fun o => by simp
  have e2 : ∀ o o' : Obj, ((w.alloc o).alloc o').heap.size = w.heap.size + 2 := fun o o' => by simp
  refine ⟨belowT (belowT below1 below1) below1, ?_, ?_, ?_, by simp⟩
  · exact blk_keep below1 (blk_keep below1 (heap_alloc_last w _))
  · have := blk_keep (below1 (o := .cells c u)) (heap_alloc_last (w.alloc (.cells a s)) (.cells b t))
    rwa [e1] at this
  · have := heap_alloc_last ((w.alloc (.cells a s)).alloc (.cells b t)) (.cells c u)
    rwa [e2] at this
theorem heap2 (w : World) (a b : Array Value) (s t : TypeId) (W : World) (hW : W = (w.alloc (.cells a s)).alloc (.cells b t)) : Below w.heap.size w W ∧ W.heap[w.heap.size]? = some (.cells a s (0, 0)) ∧ W.heap[w.heap.size + 1]? = some (.cells b t (0, 0)) ∧ W.heap.size = w.heap.size + 2 := by
  subst hW
  have e1 : ∀ o : Obj, (w.alloc o).heap.size = w.heap.size + 1 := fun o => by simp
  refine ⟨belowT below1 below1, ?_, ?_, by simp⟩
  · exact blk_keep below1 (heap_alloc_last w _)
  · have := heap_alloc_last (w.alloc (.cells a s)) (.cells b t)
    rwa [e1] at this

theorem put_alloc {w : World} {b n : Nat} {c c' : Array Value} {t : TypeId} {o : Obj} (hg : w.heap[b]? = some (.cells c t (0, 0))) (hn : c.size = n) (hn' : c'.size = n) : ldA ((stA w (.pointer (some ⟨b, 0, none⟩)) (.agg c')).alloc o) (.pointer (some ⟨b, 0, none⟩)) n = some c' := by
  rw [ldA_alloc _ _ _ _ _ (by rw [size_stA]; exact (Array.getElem?_eq_some_iff.1 hg).1)]
  exact put_whole hg hn hn'
theorem slE_stA {w : World} {v x : Value} {l : List Nt} {b : Nat} (h : SlE Ent w v l) (hb : v.ownBlock ≠ some b) : SlE Ent (stA w (.pointer (some ⟨b, 0, none⟩)) x) v l :=
  slE_block h (by rw [size_stA]; exact Nat.le_refl _) (fun k _ hk => heap_stA (fun e => hb (by rw [hk, e])))
theorem putSeg_all {c r : Array Value} (h : r.size = c.size) : putSeg c 0 r = r := by
  apply Array.toList_inj.1
  unfold putSeg
  simp only [List.take_zero, List.nil_append, Nat.zero_add]
  rw [List.drop_of_length_le (by rw [Array.length_toList]; omega), List.append_nil]
theorem heap_put {w : World} {g : Nat} {c r : Array Value} {t : TypeId} (hg : w.heap[g]? = some (.cells c t (0, 0))) (h : r.size = c.size) : (stA w (.pointer (some ⟨g, 0, none⟩)) (.agg r)).heap[g]? = some (.cells r t (0, 0)) := by
  rw [heap_stA_same hg (by omega), putSeg_all h]
/-- A box is answered. -/
def BoxIs (B : BoxP Nt) (w : World) (e : Ending) (w' : World) : Prop := ∃ (b : Bx) (l : List Nt), e = .returned (.agg (bx b)) ∧ bp b l = B ∧ SlE Ent w' (sv b.l) l ∧ Below w.heap.size w w'
/-- The same, its notes in memory of the call's own. -/
def BoxF (B : BoxP Nt) (w : World) (e : Ending) (w' : World) : Prop := ∃ (b : Bx) (l : List Nt), e = .returned (.agg (bx b)) ∧ bp b l = B ∧ SlE Ent w' (sv b.l) l ∧ (∀ k, (sv b.l).ownBlock = some k → w.heap.size ≤ k) ∧ Below w.heap.size w w'
def TakF (B : BoxP Nt) (N : Nt) (ok : Bool) (w : World) (e : Ending) (w' : World) : Prop := ∃ (b : Bx) (l : List Nt), e = .returned (.tuple #[.agg (bx b), .agg (nt N), .bool ok]) ∧ bp b l = B ∧ SlE Ent w' (sv b.l) l ∧ (∀ k, (sv b.l).ownBlock = some k → w.heap.size ≤ k) ∧ Below w.heap.size w w'
/-- A box, and whether. -/
def CloIs (B : BoxP Nt) (ok : Bool) (w : World) (e : Ending) (w' : World) : Prop := ∃ (b : Bx) (l : List Nt), e = .returned (.tuple #[.agg (bx b), .bool ok]) ∧ bp b l = B ∧ SlE Ent w' (sv b.l) l ∧ Below w.heap.size w w'
/-- A box, a note, and whether. -/
def TakIs (B : BoxP Nt) (N : Nt) (ok : Bool) (w : World) (e : Ending) (w' : World) : Prop := ∃ (b : Bx) (l : List Nt), e = .returned (.tuple #[.agg (bx b), .agg (nt N), .bool ok]) ∧ bp b l = B ∧ SlE Ent w' (sv b.l) l ∧ Below w.heap.size w w'

theorem do_post (b : Bx) (x : Nt) (l : List Nt) (w : World) (h : SlE Ent w (sv b.l) l) (hn : l.length ≤ 100) :
    ∃ ok, Calls Try.prog 23 #[.func (.func 24) #[] #[], .agg (bx b), .agg (nt x)] w (MailIs (postX Nt.ver (bp b l) x) x ok w.heap.size w) := by
  have hl := sv_len h
  obtain ⟨cap, ⟨p, n, cp⟩, lag, closed⟩ := b
  dsimp only at hl
  refine ⟨mayX Nt.ver ⟨cap, l, lag, closed⟩ && (!closed && (!lastB Nt.ver l x.ver && !decide ((l.length : Int) = cap))), do_post_n cap p n cp lag closed x l w h hl (by omega) _ _ _ (fun hm => ⟨?_, rfl, by rw [hm]; rfl⟩) (fun hm base q cq W ho hb => ?_)⟩
  · unfold postX fitB bp
    rw [hm]
    rfl
  · rw [hm, Bool.true_and]
    cases closed with
    | true =>
      have := post_shut cap ⟨q, n, cq⟩ lag x l base W (ownE_slE ho) (fun b hb => (ownE_lt ho hb).1) hb
      rw [show postX Nt.ver (bp ⟨cap, ⟨p, n, cp⟩, lag, true⟩ l) x = ⟨cap, l, lag, true⟩ from post_closed _ _ rfl]
      exact this
    | false =>
      have := post_open cap q n cq lag x l base W ho hl (by omega) hb
      have e : postX Nt.ver (bp ⟨cap, ⟨p, n, cp⟩, lag, false⟩ l) x = if lastB Nt.ver l x.ver = true then ⟨cap, l, lag, false⟩ else if (l.length : Int) = cap then ⟨cap, l, true, false⟩ else ⟨cap, l ++ [x], lag, false⟩ := by
        unfold postX fitB bp
        rw [hm]
        cases lastB Nt.ver l x.ver <;> rfl
      rw [e]
      exact this

theorem do_take (b : Bx) (x : Nt) (l : List Nt) (w : World) (h : SlE Ent w (sv b.l) l) (hn : l.length ≤ 100) :
    Calls Try.prog 23 #[.func (.func 25) #[] #[], .agg (bx b), .agg (nt x)] w (MailIs (takeX Nt.ver (bp b l)) (takeN Nt.ver x (bp b l)) (takeB Nt.ver (bp b l)) w.heap.size w) := by
  have hl := sv_len h
  obtain ⟨cap, ⟨p, n, cp⟩, lag, closed⟩ := b
  dsimp only at hl
  refine do_take_n cap p n cp lag closed x l w h hl (by omega) _ _ _ (fun hm => ?_) (fun hm base q cq W ho hb => ?_)
  · have e : takeB Nt.ver (bp ⟨cap, ⟨p, n, cp⟩, lag, closed⟩ l) = false := by unfold takeB bp; rw [hm]; rfl
    refine ⟨?_, ?_, e⟩
    · unfold takeX; rw [if_neg (by rw [e]; exact Bool.false_ne_true)]; rfl
    · unfold takeN; rw [if_neg (by rw [e]; exact Bool.false_ne_true)]
  · cases l with
    | nil =>
      have e : takeB Nt.ver (bp ⟨cap, ⟨p, n, cp⟩, lag, closed⟩ []) = false := by unfold takeB bp; simp
      have e1 : takeX Nt.ver (bp ⟨cap, ⟨p, n, cp⟩, lag, closed⟩ []) = ⟨cap, [], lag, closed⟩ := by unfold takeX; rw [if_neg (by rw [e]; exact Bool.false_ne_true)]; rfl
      have e2 : takeN Nt.ver x (bp ⟨cap, ⟨p, n, cp⟩, lag, closed⟩ []) = x := by unfold takeN; rw [if_neg (by rw [e]; exact Bool.false_ne_true)]
      rw [e, e1, e2]
      obtain rfl : n = 0 := hl.symm
      exact take_0 cap q cq lag closed x base W (fun b hb => (ownE_lt ho hb).1) hb
    | cons y l =>
      have e : takeB Nt.ver (bp ⟨cap, ⟨p, n, cp⟩, lag, closed⟩ (y :: l)) = true := by unfold takeB bp; rw [hm]; simp
      have e1 : takeX Nt.ver (bp ⟨cap, ⟨p, n, cp⟩, lag, closed⟩ (y :: l)) = ⟨cap, l, lag, closed⟩ := by unfold takeX; rw [if_pos e]; rfl
      have e2 : takeN Nt.ver x (bp ⟨cap, ⟨p, n, cp⟩, lag, closed⟩ (y :: l)) = y := by unfold takeN; rw [if_pos e]; rfl
      rw [e, e1, e2]
      obtain ⟨k, rfl⟩ : ∃ k, n = k + 1 := ⟨l.length, hl.symm⟩
      obtain ⟨b1, o1, c1, e3, _⟩ := slE_ne (ownE_slE ho) (by simp)
      injection e3 with e3
      subst e3
      exact take_s cap b1 o1 k cq lag closed x y l base W (ownE_lt ho rfl).1 hb (ownE_slE ho) (by simpa using hl)

theorem do_shut (b : Bx) (x : Nt) (l : List Nt) (w : World) (h : SlE Ent w (sv b.l) l) (hn : l.length ≤ 100) :
    Calls Try.prog 23 #[.func (.func 26) #[] #[], .agg (bx b), .agg (nt x)] w (MailIs (closeX Nt.ver (bp b l)) x (closeB Nt.ver (bp b l)) w.heap.size w) := by
  have hl := sv_len h
  obtain ⟨cap, ⟨p, n, cp⟩, lag, closed⟩ := b
  dsimp only at hl
  refine do_shut_n cap p n cp lag closed x l w h hl (by omega) _ _ _ (fun hm => ?_) (fun hm base q cq W ho hb => ?_)
  · have e : closeB Nt.ver (bp ⟨cap, ⟨p, n, cp⟩, lag, closed⟩ l) = false := by unfold closeB bp; rw [hm]; rfl
    refine ⟨?_, rfl, e⟩
    unfold closeX; rw [if_neg (by rw [e]; exact Bool.false_ne_true)]; rfl
  · have e : closeB Nt.ver (bp ⟨cap, ⟨p, n, cp⟩, lag, closed⟩ l) = !closed := by unfold closeB bp; rw [hm]; rfl
    have e1 : closeX Nt.ver (bp ⟨cap, ⟨p, n, cp⟩, lag, closed⟩ l) = ⟨cap, l, lag, true⟩ := by
      unfold closeX
      rw [e]
      cases closed <;> rfl
    rw [e, e1]
    exact shut_any ⟨⟨cap, ⟨q, n, cq⟩, lag, closed⟩, x⟩ l base W (ownE_slE ho) (fun b hb => (ownE_lt ho hb).1) hb

set_option maxRecDepth 100000 in
set_option maxHeartbeats 1000000 in
/-- Post. -/
theorem post_fresh (b : Bx) (x : Nt) (l : List Nt) (w : World) (h : SlE Ent w (sv b.l) l) (hn : l.length ≤ 100) :
    Calls Try.prog 11 #[.agg (bx b), .agg (nt x)] w (BoxF (postX Nt.ver (bp b l) x) w) := by
  have HD := Lib.hid (fun W (g : Below w.heap.size w W) => do_post b x l W (slE_keep g h) hn)
  obtain ⟨W0, hW0⟩ : ∃ W0, W0 = ((w.alloc (.cells (bx b) 24)).alloc (.cells (nt x) 31)).alloc (.cells (bx zbx) 24) := ⟨_, rfl⟩
  obtain ⟨hB, _, _, hM2, hZ⟩ := heap3 w _ _ _ _ _ _ W0 hW0
  have HB := Lib.hid hB
  have M2 := Lib.hid hM2
  have HZ := Lib.hid hZ
  have HW := Lib.hid hW0
  clear h hn hW0 hB hM2 hZ
  go_enter Try.func11, Try.ntmps11
  go_wp2_with fail
  rw [← HW.out]
  obtain ⟨ok, hd⟩ := HD.out W0 HB.out
  refine hd.mono ?_
  rintro e w1 ⟨m, l1, rfl, e1, _, s1, f1, g1⟩
  have N2 := Lib.hid (blk_keep g1 M2.out)
  have q2 := wrA_block N2.out (bx_size _)
  have q3 : w.heap.size + 2 < w1.heap.size := (Array.getElem?_eq_some_iff.1 N2.out).1
  have S1 := Lib.hid s1
  have F1 := Lib.hid f1
  have E1 := Lib.hid e1
  have G1 := Lib.hid (belowT HB.out g1)
  clear hd s1 f1 e1 g1
  go_wp2_with fail
  exact bodyPost_ret (results_agg1 Try.isAgg24 Try.sizeOf24 _ 4 rfl _ _ _ _ rfl (put_alloc N2.out (bx_size _) (bx_size _))) rfl ⟨m.box, l1, rfl, E1.out, slE_keep below1 (slE_stA S1.out (fun e => by have := F1.out _ e; have := HZ.out; omega)), (fun k hk => by have := F1.out k hk; have := HZ.out; omega), belowT (below_stA G1.out (by omega)) below1⟩
theorem post_any (b : Bx) (x : Nt) (l : List Nt) (w : World) (h : SlE Ent w (sv b.l) l) (hn : l.length ≤ 100) :
    Calls Try.prog 11 #[.agg (bx b), .agg (nt x)] w (BoxIs (postX Nt.ver (bp b l) x) w) :=
  (post_fresh b x l w h hn).mono fun _ _ ⟨b', l', h1, h2, h3, _, h5⟩ => ⟨b', l', h1, h2, h3, h5⟩

set_option maxRecDepth 100000 in
set_option maxHeartbeats 1000000 in
/-- Close. -/
theorem close_any (b : Bx) (l : List Nt) (w : World) (h : SlE Ent w (sv b.l) l) (hn : l.length ≤ 100) :
    Calls Try.prog 15 #[.agg (bx b)] w (CloIs (closeX Nt.ver (bp b l)) (closeB Nt.ver (bp b l)) w) := by
  have HD := Lib.hid (fun W (g : Below w.heap.size w W) => do_shut b znt l W (slE_keep g h) hn)
  generalize closeB Nt.ver (bp b l) = ok at *
  obtain ⟨W0, hW0⟩ : ∃ W0, W0 = (w.alloc (.cells (bx b) 24)).alloc (.cells (bx zbx) 24) := ⟨_, rfl⟩
  obtain ⟨hB, _, hM2, hZ⟩ := heap2 w _ _ _ _ W0 hW0
  have HB := Lib.hid hB
  have M2 := Lib.hid hM2
  have HZ := Lib.hid hZ
  have HW := Lib.hid hW0
  clear h hn hW0 hB hM2 hZ
  go_enter Try.func15, Try.ntmps15
  go_wp2_with fail
  rw [← HW.out]
  refine (HD.out W0 HB.out).mono ?_
  rintro e w1 ⟨m, l1, rfl, e1, _, s1, f1, g1⟩
  have N2 := Lib.hid (blk_keep g1 M2.out)
  have q2 := wrA_block N2.out (bx_size _)
  have q3 : w.heap.size + 1 < w1.heap.size := (Array.getElem?_eq_some_iff.1 N2.out).1
  have S1 := Lib.hid s1
  have F1 := Lib.hid f1
  have E1 := Lib.hid e1
  have G1 := Lib.hid (belowT HB.out g1)
  clear s1 f1 e1 g1
  go_wp2_with fail
  exact bodyPost_ret (results_agg2 Try.isAgg24 Try.sizeOf24 _ 2 3 rfl _ _ _ _ _ rfl rfl (put_alloc N2.out (bx_size _) (bx_size _))) rfl ⟨m.box, l1, rfl, E1.out, slE_keep below1 (slE_stA S1.out (fun e => by have := F1.out _ e; have := HZ.out; omega)), belowT (below_stA G1.out (by omega)) below1⟩

set_option maxRecDepth 100000 in
set_option maxHeartbeats 1000000 in
/-- Take. -/
theorem take_fresh (b : Bx) (l : List Nt) (w : World) (h : SlE Ent w (sv b.l) l) (hn : l.length ≤ 100) :
    Calls Try.prog 13 #[.agg (bx b)] w (TakF (takeX Nt.ver (bp b l)) (takeN Nt.ver znt (bp b l)) (takeB Nt.ver (bp b l)) w) := by
  have HD := Lib.hid (fun W (g : Below w.heap.size w W) => do_take b znt l W (slE_keep g h) hn)
  generalize takeB Nt.ver (bp b l) = ok at *
  obtain ⟨W0, hW0⟩ : ∃ W0, W0 = ((w.alloc (.cells (bx b) 24)).alloc (.cells (bx zbx) 24)).alloc (.cells (nt znt) 31) := ⟨_, rfl⟩
  obtain ⟨hB, _, hM1, hM2, hZ⟩ := heap3 w _ _ _ _ _ _ W0 hW0
  have HB := Lib.hid hB
  have M1 := Lib.hid hM1
  have M2 := Lib.hid hM2
  have HZ := Lib.hid hZ
  have HW := Lib.hid hW0
  clear h hn hW0 hB hM1 hM2 hZ
  go_enter Try.func13, Try.ntmps13
  go_wp2_with fail
  rw [← HW.out]
  refine (HD.out W0 HB.out).mono ?_
  rintro e w1 ⟨m, l1, rfl, e1, e2, s1, f1, g1⟩
  have N1 := Lib.hid (blk_keep g1 M1.out)
  have N2 := Lib.hid (blk_keep g1 M2.out)
  have q1 := wrA_block N1.out (bx_size _)
  have q2 := wrA_block N2.out (nt_size _)
  have q3 : w.heap.size + 2 < w1.heap.size := (Array.getElem?_eq_some_iff.1 N2.out).1
  have q4 : w.heap.size + 1 < w1.heap.size := by omega
  have S1 := Lib.hid s1
  have F1 := Lib.hid f1
  have E1 := Lib.hid e1
  have E2 := Lib.hid e2
  have G1 := Lib.hid (belowT HB.out g1)
  have T1 : Hid ((stA w1 (.pointer (some ⟨w.heap.size + 1, 0, none⟩)) (.agg (bx m.box))).heap[w.heap.size + 2]? = some (.cells (nt znt) 31 (0, 0))) := (heap_stA (by omega)).trans N2.out
  have T2 : Hid ((stA w1 (.pointer (some ⟨w.heap.size + 2, 0, none⟩)) (.agg (nt m.note))).heap[w.heap.size + 1]? = some (.cells (bx zbx) 24 (0, 0))) := (heap_stA (by omega)).trans N1.out
  have q5 : wrA (stA w1 (.pointer (some ⟨w.heap.size + 1, 0, none⟩)) (.agg (bx m.box))) (.pointer (some ⟨w.heap.size + 1 + 1, 0, none⟩)) 66 = true := wrA_block T1.out (nt_size _)
  have q6 : wrA (stA w1 (.pointer (some ⟨w.heap.size + 1 + 1, 0, none⟩)) (.agg (nt m.note))) (.pointer (some ⟨w.heap.size + 1, 0, none⟩)) 4 = true := wrA_block T2.out (bx_size _)
  clear s1 f1 e1 e2 g1
  go_wp2_with fail
  go_region
  all_goals
    go_wp2_with fail
    have U1 : ((stA (stA w1 (.pointer (some ⟨w.heap.size + 1, 0, none⟩)) (.agg (bx m.box))) (.pointer (some ⟨w.heap.size + 2, 0, none⟩)) (.agg (nt m.note))).alloc (.cells (ml m) 47)).heap[w.heap.size + 1]? = some (.cells (bx m.box) 24 (0, 0)) := blk_keep below1 ((heap_stA (by omega)).trans (heap_put N1.out (by rw [bx_size, bx_size])))
    have U2 : ((stA (stA w1 (.pointer (some ⟨w.heap.size + 1, 0, none⟩)) (.agg (bx m.box))) (.pointer (some ⟨w.heap.size + 2, 0, none⟩)) (.agg (nt m.note))).alloc (.cells (ml m) 47)).heap[w.heap.size + 2]? = some (.cells (nt m.note) 31 (0, 0)) := blk_keep below1 (heap_put T1.out (by rw [nt_size, nt_size]))
    refine bodyPost_ret (results_agg22 Try.isAgg24 Try.sizeOf24 Try.isAgg31 Try.sizeOf31 _ 2 3 4 rfl _ _ _ _ _ _ _ rfl rfl rfl (ldA_block U1 (bx_size _)) (ldA_block U2 (nt_size _))) rfl ⟨m.box, l1, by rw [← E2.out]; rfl, E1.out, slE_keep (belowD below1 1) (slE_stA (slE_stA S1.out (fun e => by have := F1.out _ e; have := HZ.out; omega)) (fun e => by have := F1.out _ e; have := HZ.out; omega)), (fun k hk => by have := F1.out k hk; have := HZ.out; omega), belowT (below_stA (below_stA G1.out (by omega)) (by omega)) (belowD below1 1)⟩
theorem take_any (b : Bx) (l : List Nt) (w : World) (h : SlE Ent w (sv b.l) l) (hn : l.length ≤ 100) :
    Calls Try.prog 13 #[.agg (bx b)] w (TakIs (takeX Nt.ver (bp b l)) (takeN Nt.ver znt (bp b l)) (takeB Nt.ver (bp b l)) w) :=
  (take_fresh b l w h hn).mono fun _ _ ⟨b', l', h1, h2, h3, _, h5⟩ => ⟨b', l', h1, h2, h3, h5⟩
end Go.Proofs.Ytiljgnhnpoackaa
