/-
  The law RingParts, walked.
-/
import Derived.Test.YtmcnpefnebehfaaRingS
import Derived.Deep.Cut
import Derived.Deep.CutRange
namespace Go.Proofs.Ytmcnpefnebehfaa
open Go.RowKit

/-- Run's two answers: the ring in a variable's block, the numbers that were told. -/
def CallR (wr : World) (c : Int) (k t : List Int) (s q : Value) (wx : World) : Prop :=
  ∃ g v, s = .pointer (some ⟨g, 0, none⟩) ∧ Rg wx g c v k ∧ SlI wx q t ∧ Below wr.heap.size wr wx
theorem callR_old {wr W w5 : World} {g : Nat} {c : Int} {v q : Value} {k t : List Int} (hW : Below wr.heap.size wr W) (hg : wr.heap.size ≤ g) (hz : W.heap[g]? = some (rgO 0 (.slice none 0 0))) (g5 : Below W.heap.size W w5) (hv : OwnI w5 W.heap.size v k) (hq : OwnI w5 W.heap.size q t) :
    CallR wr c k t (.pointer (some ⟨g, 0, none⟩)) q ((w5.setCell ⟨g, 0, none⟩ (.int .i64 c)).setCell ⟨g, 1, none⟩ v) := by
  have hlt := (Array.getElem?_eq_some_iff.1 hz).1
  exact ⟨g, v, rfl, ⟨heap_setI (heap_setI (blk_keep g5 hz) 0 _) 1 _, ownI_slI (ownI_set (ownI_set hv hlt _) hlt _)⟩, ownI_slI (ownI_set (ownI_set hq hlt _) hlt _), ((belowT hW g5).setCell hg _).setCell hg _⟩
theorem callR_new {wr W w5 : World} {c : Int} {v q : Value} {k t : List Int} (hW : Below wr.heap.size wr W) (g5 : Below W.heap.size W w5) (hv : OwnI w5 W.heap.size v k) (hq : OwnI w5 W.heap.size q t) :
    CallR wr c k t (.pointer (some ⟨w5.heap.size, 0, none⟩)) q (w5.alloc (rgO c v)) :=
  ⟨_, v, rfl, Rg.new (ownI_slI hv), slI_keep below1 (ownI_slI hq), belowT (belowT hW g5) below1⟩
theorem app1 {w2 W w3 : World} {v3 : Value} {a : List Int} (hW : Below w2.heap.size w2 W) (ho : OwnI w3 W.heap.size v3 a) (hg : GrI W (.slice none 0 0) w3 v3) :
    ∃ base, w2.heap.size ≤ base ∧ base ≤ w3.heap.size ∧ OwnI w3 base v3 a ∧ Below w2.heap.size w2 w3 ∧ ∀ g o, W.heap[g]? = some o → w3.heap[g]? = some o ∧ v3.ownBlock ≠ some g := by
  have D := hg.own (ownI_nil W W.heap.size) (Nat.le_refl _)
  refine ⟨W.heap.size, hW.size, D.size, ho, belowT hW D, fun g o h => ⟨blk_keep D h, fun e => ?_⟩⟩
  have := (World.ownsRow.lt ho g e).1
  have := (Array.getElem?_eq_some_iff.1 h).1
  omega
theorem app2 {w2 W w4 : World} {base : Nat} {v3 v4 : Value} {a b : List Int} (hW : Below w2.heap.size w2 W) (hle : w2.heap.size ≤ base) (hb : base ≤ W.heap.size) (ho : OwnI W base v3 a) (ho4 : OwnI w4 base v4 b) (hg : GrI W v3 w4 v4) :
    OwnI w4 base v4 b ∧ Below w2.heap.size w2 w4 ∧ ∀ g o, W.heap[g]? = some o → v3.ownBlock ≠ some g → w4.heap[g]? = some o :=
  ⟨ho4, hW.trans ((hg.own ho hb).mono hle), fun _ _ h hn => hg.heap h hn⟩
theorem enters_ringRun : ∀ args w, (callFunc 14 args).run Try.prog w = .ok (.enter 14 args) w := entersI Try.func14 (by kernel_rfl) (by kernel_rfl)

set_option maxRecDepth 100000 in
set_option maxHeartbeats 4000000 in
theorem ringParts_on (c : Int) (p : Option Addr) (cap n : Nat) (l : List Int) (va vb : Value) (pa pb : Option Addr) (ca cb na nb : Nat) (a b : List Int) (w : World) (hva : va = .slice pa na ca) (hvb : vb = .slice pb nb cb) (h : SlI w (.slice p n cap) l) (ha : SlI w va a) (hb : SlI w vb b) (hn : l.length = n) (hm : mayB c l = true) (hna : a.length = na) (hnb : b.length = nb) (hla : na ≤ 100) (hlb : nb ≤ 100) :
    Calls Try.prog 6 #[.agg #[.int .i64 c, .slice p n cap], .slice pa na ca, .slice pb nb cb] w fun e w' => e = .returned (.bool true) ∧ Below w.heap.size w w' := by
  have hl : l.length ≤ 8 := may_len hm
  have z1 : decide ((100 : Int) < (na : Int)) = false := by simp; omega
  have z2 : decide ((100 : Int) < (nb : Int)) = false := by simp; omega
  have HC := Lib.hid (fun W => may_is c p n cap l true W hn hm)
  have HAB := Lib.hid (show (a ++ b).length ≤ 200 by rw [List.length_append]; omega)
  have HRAB := Lib.hid (fun W vn h hv => rrun_any c (.slice p n cap) l vn (a ++ b) W h hv (by omega) (by rw [List.length_append]; omega))
  unfold RunIs at HRAB
  have HRA := Lib.hid (fun W h hv => run_is c (.slice p n cap) l (.slice pa na ca) a (runL c l a) (toldL c l a) W h hv (by omega) (by omega) (by unfold goL; rw [if_pos hm]) (by unfold goT; rw [if_pos hm]))
  have HRB := Lib.hid (fun W u h hv => run_is c u (runL c l a) (.slice pb nb cb) b (runL c (runL c l a) b) (toldL c (runL c l a) b) W h hv (by have := run_len a hm; omega) (by omega) (by unfold goL; rw [if_pos (run_may a hm)]) (by unfold goT; rw [if_pos (run_may a hm)]))
  have hE : goL c l (a ++ b) = runL c (runL c l a) b ∧ goT c l (a ++ b) = toldL c l a ++ toldL c (runL c l a) b := by
    unfold goL goT
    rw [if_pos hm, if_pos hm, runL_append, toldL_append]; exact ⟨rfl, rfl⟩
  rw [hE.1, hE.2] at HRAB
  have HTA := Lib.hid (show (toldL c l a).length ≤ 100 by rw [toldL_length]; omega)
  have HTB := Lib.hid (show (toldL c (runL c l a) b).length ≤ 100 by rw [toldL_length]; omega)
  have HK2 := Lib.hid (show (runL c (runL c l a) b).length ≤ 8 from run_len b (run_may a hm))
  have R0 : Hid (Rg (w.alloc (rgO c (.slice p n cap))) w.heap.size c (.slice p n cap) l) := Rg.new h
  have HA := Lib.hid (hva ▸ ha)
  have HB := Lib.hid (hvb ▸ hb)
  have HNA := Lib.hid hna
  have HNB := Lib.hid hnb
  have HLA := Lib.hid hla
  have HLB := Lib.hid hlb
  have HN := Lib.hid (show n ≤ 8 by omega)
  clear hn hm hna hnb hla hlb ha hb h hl hE hva hvb
  generalize runL c (runL c l a) b = k2 at *
  generalize toldL c (runL c l a) b = t2 at *
  generalize runL c l a = k1 at *
  generalize toldL c l a = t1 at *
  go_enter Try.func6, Try.ntmps6
  go_wp2_with fail
  refine (awake_any _).mono ?_
  rintro e w1 ⟨rfl, g1⟩
  have R1 := Lib.hid (R0.out.keep g1)
  have B1 := Lib.hid (belowT (below1 (o := rgO c (.slice p n cap))) g1)
  obtain ⟨x0, x1, _, _, xl⟩ := cells2 R1.out.m
  clear g1
  go_wp2_with fail
  refine (HC.out _).mono ?_
  rintro e w2 ⟨rfl, g2⟩
  have R2 := Lib.hid (R1.out.keep g2)
  have B2 := Lib.hid (belowT B1.out g2)
  have SA := Lib.hid (slI_keep B2.out HA.out)
  have SB := Lib.hid (slI_keep B2.out HB.out)
  clear g2 x0 x1 xl
  obtain ⟨x0, x1, _, _, xl⟩ := cells2 R2.out.m
  go_upto_region 4 with fail
  go_cut [8, 9] from 36 to 43 (fun s q wx => CallR w2 c k2 (t1 ++ t2) s q wx)
  case first =>
    go_region_law (first
      | (refine step_append_ints _ rfl (.const (.slice none 0 0)) (.tmp 37) rfl _ _ [] rfl (ownI_nil _ _) _ a rfl (by first | exact slI_keep (belowD (Below.refl _ _) _) SA.out | exact slI_keep (belowD below1 _) SA.out) (by have := HLA.out; have := HNA.out; simp; omega) (Nat.le_refl _) ?_
         intro v3 w3 ho3 hg3
         obtain ⟨base, hle, hb3, O3, E3, Z3⟩ := app1 (w2 := w2) (by first | exact belowD (Below.refl _ _) _ | exact belowD below1 _) ho3 hg3
         have HLE := Lib.hid hle
         have HB3 := Lib.hid hb3
         have HO3 := Lib.hid (show OwnI w3 base v3 a from O3)
         have HE3 := Lib.hid E3
         (try (have Z := Lib.hid (And.intro (Nat.le_refl w2.heap.size) (Z3 _ _ (new_drew w2 _ _)))))
         obtain ⟨a0, a1, _, _, al⟩ := cells2 (R2.out.keep E3).m
         clear hle hb3 O3 E3 Z3 ho3 hg3)
      | (refine step_append_ints _ rfl (.tmp 38) (.tmp 39) rfl base _ a rfl (by first | exact HO3.out | exact ownI_alloc HO3.out _) _ b rfl (by first | exact slI_keep HE3.out SB.out | exact slI_keep (belowT HE3.out below1) SB.out) (by have := HAB.out; rw [List.length_append] at this; omega) (by first | exact HB3.out | exact Nat.le_trans HB3.out below1.size) ?_
         intro v4 w4 ho4 hg4
         obtain ⟨O4, E4, Z4⟩ := app2 (w2 := w2) (by first | exact HE3.out | exact belowT HE3.out below1) HLE.out (by first | exact HB3.out | exact Nat.le_trans HB3.out below1.size) (by first | exact HO3.out | exact ownI_alloc HO3.out _) ho4 hg4
         have HO4 := Lib.hid O4
         have HE4 := Lib.hid E4
         (try (first | (have Y := Lib.hid (And.intro Z.out.1 (Z4 _ _ Z.out.2.1 Z.out.2.2))) | (have Y := Lib.hid (And.intro HE3.out.size (Z4 _ _ (heap_alloc_last w3 _) (ownI_ne HO3.out (Nat.le_refl _)))))))
         obtain ⟨b0, b1, _, _, bl⟩ := cells2 (R2.out.keep E4).m
         clear O4 E4 Z4 ho4 hg4)
      | (refine step_callI _ rfl rfl enters_ringRun #[.agg #[.int .i64 c, .slice p n cap], v4] rfl ?_
         have E5 : Hid (Below w2.heap.size w2 w4) := HE4
         refine (HRAB.out _ v4 (by first | exact slI_keep HE4.out R2.out.s | exact slI_keep (belowT HE4.out below1) R2.out.s) (by first | exact ownI_slI HO4.out | exact slI_keep below1 (ownI_slI HO4.out))).mono ?_
         rintro e w5 ⟨v5, q5, rfl, hv5, hq5, g5⟩
         refine ⟨_, rfl, ?_⟩
         (first
           | (have HR := Lib.hid (callR_old (c := c) HE4.out Y.out.1 Y.out.2 g5 hv5 hq5); obtain ⟨z0, z1, q0, q1, zl⟩ := cells2 (blk_keep g5 Y.out.2))
           | (have HR := Lib.hid (callR_old (c := c) (belowT HE4.out below1) HE4.out.size (heap_alloc_last w4 _) g5 hv5 hq5); obtain ⟨z0, z1, q0, q1, zl⟩ := cells2 (blk_keep g5 (heap_alloc_last w4 _)))
           | (have HR := Lib.hid (callR_new (c := c) HE4.out g5 hv5 hq5)))
         obtain ⟨p5, cap5, rfl⟩ := ownI_shape hv5))
    all_goals (go_wp2_with fail; go_meet; exact HR.out)
  case rest =>
    obtain ⟨g, v, rfl, rg, sq, gg⟩ := hcut
    have Gs := Lib.hid rg
    have Qs := Lib.hid sq
    have R4 := Lib.hid (R2.out.keep gg)
    have B4 := Lib.hid (belowT B2.out gg)
    have SA4 := Lib.hid (slI_keep gg SA.out)
    have SB4 := Lib.hid (slI_keep gg SB.out)
    clear rg sq gg x0 x1 xl
    obtain ⟨x0, x1, _, _, xl⟩ := cells2 R4.out.m
    go_wp2_with fail
    refine (HRA.out _ R4.out.s SA4.out).mono ?_
    rintro e w6 ⟨v6, q6, rfl, s6, y6, g6⟩
    have R6 := Lib.hid (Rg.new (c := c) s6)
    have E6 := Lib.hid (belowT g6 (below1 (o := rgO c v6)))
    have Y6 := Lib.hid (slI_keep (below1 (o := rgO c v6)) y6)
    obtain ⟨p6, cap6, rfl, _⟩ := slI_shape s6
    clear s6 y6 g6 x0 x1 xl
    go_wp2_with fail
    refine (HRB.out _ _ R6.out.s (slI_keep E6.out SB4.out)).mono ?_
    rintro e w7 ⟨v7, q7, rfl, s7, y7, g7⟩
    have E7 := Lib.hid (belowT E6.out (belowT g7 (below1 (o := rgO c v7))))
    have R7 := Lib.hid (Rg.new (c := c) s7)
    have G7 := Lib.hid (Gs.out.keep E7.out)
    have Q7 := Lib.hid (slI_keep E7.out Qs.out)
    have Y6' := Lib.hid (slI_keep (belowT g7 (below1 (o := rgO c v7))) Y6.out)
    have Y7 := Lib.hid (slI_keep (below1 (o := rgO c v7)) y7)
    obtain ⟨p7, cap7, rfl, _⟩ := slI_shape s7
    obtain ⟨ps, caps, rfl, _⟩ := slI_shape Gs.out.s
    obtain ⟨z0, z1, _, _, zl⟩ := cells2 G7.out.m
    clear s7 y7 g7
    go_wp2_with fail
    refine (same_is c c _ _ k2 k2 true _ G7.out.s R7.out.s (by have := HK2.out; omega) (by simp)).mono ?_
    rintro e w8 ⟨rfl, g8⟩
    have Q8 := Lib.hid (slI_keep g8 Q7.out)
    have Y8 := Lib.hid (slI_keep g8 Y6'.out)
    have Z8 := Lib.hid (slI_keep g8 Y7.out)
    have B8 := Lib.hid (belowT (belowT B4.out E7.out) g8)
    clear g8 z0 z1 zl
    go_wp2_with (first
      | (at_builtin; refine wpList_append_ints w8 rfl (.const (.slice none 0 0)) (.tmp 60) rfl w8.heap.size _ [] rfl (ownI_nil _ _) _ t1 rfl Y8.out (by have := HTA.out; simp; omega) (Nat.le_refl _) ?_; intro v9 w9 ho9 hg9)
      | (at_builtin
         refine wpList_append_ints w9 rfl (.tmp 61) (.tmp 62) rfl w8.heap.size _ t1 rfl ho9 _ t2 rfl (slI_keep (hg9.own (ownI_nil w8 w8.heap.size) (Nat.le_refl _)) Z8.out) (by have := HTA.out; have := HTB.out; omega) hg9.1.size ?_
         intro va wa hoa hga
         have DA := Lib.hid ((hg9.own (ownI_nil w8 w8.heap.size) (Nat.le_refl _)).trans (hga.own ho9 hg9.1.size))
         have OA := Lib.hid (ownI_slI hoa)
         clear ho9 hg9 hoa hga))
    refine (ints_is _ _ (t1 ++ t2) (t1 ++ t2) true _ (slI_keep DA.out Q8.out) OA.out (by have := HTA.out; have := HTB.out; rw [List.length_append]; omega) (by simp)).mono ?_
    rintro e wb ⟨rfl, gb⟩
    go_wp2_with fail
    go_ret
    exact ⟨rfl, belowT (belowT B8.out DA.out) gb⟩
theorem ringParts_walk (c : Int) (v : Value) (l : List Int) (va : Value) (a : List Int) (vb : Value) (b : List Int) (w : World) (h : SlI w v l) (ha : SlI w va a) (hb : SlI w vb b) :
    Calls Try.prog 6 #[.agg #[.int .i64 c, v], va, vb] w fun e w' => e = .returned (.bool true) ∧ Below w.heap.size w w' := by
  have hs := h
  have hsa := ha
  have hsb := hb
  obtain ⟨p, cap, rfl, _⟩ := slI_shape h
  obtain ⟨pa, ca, rfl, _⟩ := slI_shape ha
  obtain ⟨pb, cb, rfl, _⟩ := slI_shape hb
  cases hm : mayB c l with
  | false => exact ringParts_no c p cap _ l _ _ w rfl hm
  | true =>
    by_cases hl : 100 < a.length ∨ 100 < b.length
    · exact ringParts_long c p cap _ l pa pb ca cb _ _ w rfl hm hl
    · exact ringParts_on c p cap _ l _ _ pa pb ca cb _ _ a b w rfl rfl hs hsa hsb rfl hm rfl rfl (by omega) (by omega)
end Go.Proofs.Ytmcnpefnebehfaa
