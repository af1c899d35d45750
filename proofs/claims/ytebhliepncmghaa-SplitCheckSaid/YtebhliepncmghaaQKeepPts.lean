/-
  keep.point, keep.Points: the code points, as a function of the argument.
-/
import Derived.Test.YtebhliepncmghaaQPoints
set_option linter.unusedSimpArgs false
set_option linter.unusedVariables false
namespace Go.Proofs.Ytebhliepncmghaa
open Go.RowKit
set_option linter.unusedVariables false

def kpQ : List Int := [97, 98, 109, 110, 111, 114, 48, 45, 120, 65, 90, 49]
def kpV : List Int := [4352, 4449, 4520, 46]
/-- One code point, and what is left of the source. -/
def kpA (r : List Int) : Int × List Int :=
  (if nextV r 8 ≤ 2 then kpQ.getD (nextV r.tail 12).toNat 0
   else if nextV r 8 = 3 then 44032 + nextV r.tail 60
   else if nextV r 8 = 4 then kpV.getD (nextV r.tail 4).toNat 0
   else poolL.getD (nextV r.tail 28).toNat 0, r.tail.tail)
def kpL : Nat → List Int → List Int
  | 0, _ => []
  | k + 1, r => (kpA r).1 :: kpL k (kpA r).2
def pointsF (zs : List Int) : List Int := kpL (nextV zs 11).toNat zs.tail

theorem kpL_len : ∀ (k : Nat) (r : List Int), (kpL k r).length = k
  | 0, _ => rfl
  | k + 1, r => by simp [kpL, kpL_len k]
theorem pointsF_len (zs : List Int) : (pointsF zs).length ≤ 10 := by
  have := nextV_bd zs 11 (by omega)
  unfold pointsF
  rw [kpL_len]; omega

theorem kp_lit : ∀ q (h : q < 12), (((ByteArray.mk #[97, 98, 109, 110, 111, 114, 48, 45, 120, 65, 90, 49])[q]'(h)).toNat : Int) = kpQ.getD q 0 ∧ 0 ≤ kpQ.getD q 0 ∧ kpQ.getD q 0 ≤ 127 := by decide +kernel
theorem kp_sc12 : ∀ q, q < 12 → lenS (kpQ.getD q 0) ≠ 0 := by decide +kernel
theorem kpA_sc (r : List Int) : lenS (kpA r).1 ≠ 0 := by
  unfold kpA
  simp only
  split
  · have := nextV_bd r.tail 12 (by omega)
    exact kp_sc12 _ (by omega)
  · split
    · have := nextV_bd r.tail 60 (by omega)
      unfold lenS; omega
    · split
      · have := nextV_bd r.tail 4 (by omega)
        exact few_scalar _ (by omega)
      · have := nextV_bd r.tail 28 (by omega)
        exact pool_scalar _ (by omega)
theorem kpL_sc : ∀ (k : Nat) (r : List Int), ∀ c ∈ kpL k r, lenS c ≠ 0
  | 0, _, c, h => by cases h
  | k + 1, r, c, h => by
    rw [kpL] at h
    rcases List.mem_cons.1 h with h | h
    · rw [h]; exact kpA_sc r
    · exact kpL_sc k _ c h
theorem pointsF_sc (zs : List Int) : ∀ c ∈ pointsF zs, lenS c ≠ 0 := kpL_sc _ _

def KpOne (g : Nat) (c : Int) (r : List Int) (w : World) (e : Ending) (w' : World) : Prop :=
  e = .returned (.int .i64 c) ∧ Src w' g r ∧ w.grownBy w' (some g)

set_option maxHeartbeats 2000000 in
theorem kpoint_at (g : Nat) (r r' : List Int) (c : Int) (w : World) (hs : Src w g r) (hA : Hid (kpA r = (c, r'))) :
    Calls Try.prog 28 #[.pointer (some ⟨g, 0, none⟩)] w (KpOne g c r' w) := by
  have HS := Lib.hid hs
  have hg : g < w.heap.size := by obtain ⟨_, _, _, _, _, _, _, h4, _⟩ := hs; exact World.block_lt_of_cell? w _ h4
  clear hs
  obtain ⟨v0, v1⟩ := nextV_bd r 8 (by omega)
  have hA' := hA.out
  unfold kpA at hA'
  injection hA' with e1 e2
  subst e2
  have hv : nextV r 8 = 0 ∨ nextV r 8 = 1 ∨ nextV r 8 = 2 ∨ nextV r 8 = 3 ∨ nextV r 8 = 4 ∨ nextV r 8 = 5 ∨ nextV r 8 = 6 ∨ nextV r 8 = 7 := by omega
  clear v0 v1 hA
  rcases hv with hv | hv | hv | hv | hv | hv | hv | hv
  · rw [if_pos (by omega)] at e1
    obtain ⟨q, hq⟩ : ∃ q : Nat, nextV r.tail 12 = q := ⟨(nextV r.tail 12).toNat, by have := nextV_bd r.tail 12 (by omega); omega⟩
    have hq12 : q < 12 := by have := nextV_bd r.tail 12 (by omega); omega
    rw [hq, Int.toNat_natCast] at e1
    obtain ⟨k1, k2, k3⟩ := kp_lit q hq12
    rw [e1] at k1 k2 k3
    have HQ := Lib.hid hq
    obtain ⟨y, hy⟩ : ∃ y : Int, (((ByteArray.mk #[97, 98, 109, 110, 111, 114, 48, 45, 120, 65, 90, 49])[q]'(hq12)).toNat : Int) = y := ⟨_, rfl⟩
    have HY : Hid (y = c) := by unfold Hid; rw [← hy, k1]
    have hy0 : 0 ≤ y := by have := HY.out; omega
    have hy1 : y ≤ 127 := by have := HY.out; omega
    clear hq e1 k1 k2 k3
    have HV := Lib.hid hv
    clear hv
    go_enter Try.func28, Try.ntmps28
    go_wp2_with fail
    refine (pool_any _).mono ?_
    rintro e w1 ⟨rfl, hi1, hz1, hb1⟩
    have HI1 := Lib.hid hi1
    have HB1 := Lib.hid hb1
    clear hi1 hb1
    go_wp2_with fail
    refine (next_at g r 8 _ _ (HS.out.below HB1.out) (by omega) (by omega) HV).mono ?_
    rintro e w2 ⟨rfl, hs2, hg2⟩
    have HS2 := Lib.hid hs2
    have HG2 := Lib.hid (grownBy_trans (below_grownBy HB1.out _) hg2)
    have HI2 := Lib.hid (HI1.out.grown hg2 (by intro b off e; cases e; omega))
    clear hs2 hg2 HI1 HB1
    go_wp2_with fail
    refine (next_at g r.tail 12 q _ HS2.out (by omega) (by omega) HQ).mono ?_
    rintro e w3 ⟨rfl, hs3, hg3⟩
    have HS3 := Lib.hid hs3
    have HG3 := Lib.hid (grownBy_trans HG2.out hg3)
    clear hs3 hg3
    go_wp2
    go_ret
    exact ⟨by rw [HY.out]; rfl, HS3.out, HG3.out⟩
  · rw [if_pos (by omega)] at e1
    obtain ⟨q, hq⟩ : ∃ q : Nat, nextV r.tail 12 = q := ⟨(nextV r.tail 12).toNat, by have := nextV_bd r.tail 12 (by omega); omega⟩
    have hq12 : q < 12 := by have := nextV_bd r.tail 12 (by omega); omega
    rw [hq, Int.toNat_natCast] at e1
    obtain ⟨k1, k2, k3⟩ := kp_lit q hq12
    rw [e1] at k1 k2 k3
    have HQ := Lib.hid hq
    obtain ⟨y, hy⟩ : ∃ y : Int, (((ByteArray.mk #[97, 98, 109, 110, 111, 114, 48, 45, 120, 65, 90, 49])[q]'(hq12)).toNat : Int) = y := ⟨_, rfl⟩
    have HY : Hid (y = c) := by unfold Hid; rw [← hy, k1]
    have hy0 : 0 ≤ y := by have := HY.out; omega
    have hy1 : y ≤ 127 := by have := HY.out; omega
    clear hq e1 k1 k2 k3
    have HV := Lib.hid hv
    clear hv
    go_enter Try.func28, Try.ntmps28
    go_wp2_with fail
    refine (pool_any _).mono ?_
    rintro e w1 ⟨rfl, hi1, hz1, hb1⟩
    have HI1 := Lib.hid hi1
    have HB1 := Lib.hid hb1
    clear hi1 hb1
    go_wp2_with fail
    refine (next_at g r 8 _ _ (HS.out.below HB1.out) (by omega) (by omega) HV).mono ?_
    rintro e w2 ⟨rfl, hs2, hg2⟩
    have HS2 := Lib.hid hs2
    have HG2 := Lib.hid (grownBy_trans (below_grownBy HB1.out _) hg2)
    have HI2 := Lib.hid (HI1.out.grown hg2 (by intro b off e; cases e; omega))
    clear hs2 hg2 HI1 HB1
    go_wp2_with fail
    refine (next_at g r.tail 12 q _ HS2.out (by omega) (by omega) HQ).mono ?_
    rintro e w3 ⟨rfl, hs3, hg3⟩
    have HS3 := Lib.hid hs3
    have HG3 := Lib.hid (grownBy_trans HG2.out hg3)
    clear hs3 hg3
    go_wp2
    go_ret
    exact ⟨by rw [HY.out]; rfl, HS3.out, HG3.out⟩
  · rw [if_pos (by omega)] at e1
    obtain ⟨q, hq⟩ : ∃ q : Nat, nextV r.tail 12 = q := ⟨(nextV r.tail 12).toNat, by have := nextV_bd r.tail 12 (by omega); omega⟩
    have hq12 : q < 12 := by have := nextV_bd r.tail 12 (by omega); omega
    rw [hq, Int.toNat_natCast] at e1
    obtain ⟨k1, k2, k3⟩ := kp_lit q hq12
    rw [e1] at k1 k2 k3
    have HQ := Lib.hid hq
    obtain ⟨y, hy⟩ : ∃ y : Int, (((ByteArray.mk #[97, 98, 109, 110, 111, 114, 48, 45, 120, 65, 90, 49])[q]'(hq12)).toNat : Int) = y := ⟨_, rfl⟩
    have HY : Hid (y = c) := by unfold Hid; rw [← hy, k1]
    have hy0 : 0 ≤ y := by have := HY.out; omega
    have hy1 : y ≤ 127 := by have := HY.out; omega
    clear hq e1 k1 k2 k3
    have HV := Lib.hid hv
    clear hv
    go_enter Try.func28, Try.ntmps28
    go_wp2_with fail
    refine (pool_any _).mono ?_
    rintro e w1 ⟨rfl, hi1, hz1, hb1⟩
    have HI1 := Lib.hid hi1
    have HB1 := Lib.hid hb1
    clear hi1 hb1
    go_wp2_with fail
    refine (next_at g r 8 _ _ (HS.out.below HB1.out) (by omega) (by omega) HV).mono ?_
    rintro e w2 ⟨rfl, hs2, hg2⟩
    have HS2 := Lib.hid hs2
    have HG2 := Lib.hid (grownBy_trans (below_grownBy HB1.out _) hg2)
    have HI2 := Lib.hid (HI1.out.grown hg2 (by intro b off e; cases e; omega))
    clear hs2 hg2 HI1 HB1
    go_wp2_with fail
    refine (next_at g r.tail 12 q _ HS2.out (by omega) (by omega) HQ).mono ?_
    rintro e w3 ⟨rfl, hs3, hg3⟩
    have HS3 := Lib.hid hs3
    have HG3 := Lib.hid (grownBy_trans HG2.out hg3)
    clear hs3 hg3
    go_wp2
    go_ret
    exact ⟨by rw [HY.out]; rfl, HS3.out, HG3.out⟩
  · rw [if_neg (by omega), if_pos (by omega)] at e1
    obtain ⟨q, hq⟩ : ∃ q : Int, nextV r.tail 60 = q := ⟨_, rfl⟩
    obtain ⟨hq0, hq1⟩ := nextV_bd r.tail 60 (by omega)
    rw [hq] at hq0 hq1 e1
    have HQ := Lib.hid hq
    have HE := Lib.hid e1
    clear hq e1
    have HV := Lib.hid hv
    clear hv
    go_enter Try.func28, Try.ntmps28
    go_wp2_with fail
    refine (pool_any _).mono ?_
    rintro e w1 ⟨rfl, hi1, hz1, hb1⟩
    have HI1 := Lib.hid hi1
    have HB1 := Lib.hid hb1
    clear hi1 hb1
    go_wp2_with fail
    refine (next_at g r 8 _ _ (HS.out.below HB1.out) (by omega) (by omega) HV).mono ?_
    rintro e w2 ⟨rfl, hs2, hg2⟩
    have HS2 := Lib.hid hs2
    have HG2 := Lib.hid (grownBy_trans (below_grownBy HB1.out _) hg2)
    have HI2 := Lib.hid (HI1.out.grown hg2 (by intro b off e; cases e; omega))
    clear hs2 hg2 HI1 HB1
    go_wp2_with fail
    refine (next_at g r.tail 60 q _ HS2.out (by omega) (by omega) HQ).mono ?_
    rintro e w3 ⟨rfl, hs3, hg3⟩
    have HS3 := Lib.hid hs3
    have HG3 := Lib.hid (grownBy_trans HG2.out hg3)
    clear hs3 hg3
    go_wp2
    go_ret
    exact ⟨by rw [← HE.out]; rfl, HS3.out, HG3.out⟩
  · rw [if_neg (by omega), if_neg (by omega), if_pos (by omega)] at e1
    obtain ⟨q, hq⟩ : ∃ q : Nat, nextV r.tail 4 = q := ⟨(nextV r.tail 4).toNat, by have := nextV_bd r.tail 4 (by omega); omega⟩
    have hqn : q < 4 := by have := nextV_bd r.tail 4 (by omega); omega
    rw [hq, Int.toNat_natCast] at e1
    have HQ := Lib.hid hq
    have HE := Lib.hid e1
    clear hq e1
    have HV := Lib.hid hv
    clear hv
    go_enter Try.func28, Try.ntmps28
    go_wp2_with fail
    refine (pool_any _).mono ?_
    rintro e w1 ⟨rfl, hi1, hz1, hb1⟩
    have HI1 := Lib.hid hi1
    have HB1 := Lib.hid hb1
    clear hi1 hb1
    go_wp2_with fail
    refine (next_at g r 8 _ _ (HS.out.below HB1.out) (by omega) (by omega) HV).mono ?_
    rintro e w2 ⟨rfl, hs2, hg2⟩
    have HS2 := Lib.hid hs2
    have HG2 := Lib.hid (grownBy_trans (below_grownBy HB1.out _) hg2)
    have HI2 := Lib.hid (HI1.out.grown hg2 (by intro b off e; cases e; omega))
    clear hs2 hg2 HI1 HB1
    go_wp2_with fail
    refine (next_at g r.tail 4 q _ (HS2.out.alloc _) (by omega) (by omega) HQ).mono ?_
    rintro e w3 ⟨rfl, hs3, hg3⟩
    obtain ⟨_, _, hbe, hck⟩ := ((ints_lit_new w2 #[.int .i64 4352, .int .i64 4449, .int .i64 4520, .int .i64 46] kpV _ rfl).grown hg3 (by intro b off e; cases e; have := HG2.out.size; omega)) q hqn
    cases hbe
    rw [HE.out, Nat.zero_add] at hck
    have HS3 := Lib.hid hs3
    have HG3 := Lib.hid (grownBy_trans (grownBy_trans HG2.out (World.grownBy_alloc _ _ _)) hg3)
    clear hs3 hg3
    go_wp2
    go_ret
    exact ⟨rfl, HS3.out, HG3.out⟩
  · rw [if_neg (by omega), if_neg (by omega), if_neg (by omega)] at e1
    obtain ⟨q, hq⟩ : ∃ q : Nat, nextV r.tail 28 = q := ⟨(nextV r.tail 28).toNat, by have := nextV_bd r.tail 28 (by omega); omega⟩
    have hqn : q < 28 := by have := nextV_bd r.tail 28 (by omega); omega
    rw [hq, Int.toNat_natCast] at e1
    have HQ := Lib.hid hq
    have HE := Lib.hid e1
    clear hq e1
    have HV := Lib.hid hv
    clear hv
    go_enter Try.func28, Try.ntmps28
    go_wp2_with fail
    refine (pool_any _).mono ?_
    rintro e w1 ⟨rfl, hi1, hz1, hb1⟩
    have HI1 := Lib.hid hi1
    have HB1 := Lib.hid hb1
    clear hi1 hb1
    go_wp2_with fail
    refine (next_at g r 8 _ _ (HS.out.below HB1.out) (by omega) (by omega) HV).mono ?_
    rintro e w2 ⟨rfl, hs2, hg2⟩
    have HS2 := Lib.hid hs2
    have HG2 := Lib.hid (grownBy_trans (below_grownBy HB1.out _) hg2)
    have HI2 := Lib.hid (HI1.out.grown hg2 (by intro b off e; cases e; omega))
    clear hs2 hg2 HI1 HB1
    go_wp2_with fail
    refine (next_at g r.tail 28 q _ HS2.out (by omega) (by omega) HQ).mono ?_
    rintro e w3 ⟨rfl, hs3, hg3⟩
    obtain ⟨_, _, hbe, hck⟩ := (HI2.out.grown hg3 (by intro b off e; cases e; omega)) q hqn
    cases hbe
    rw [HE.out, Nat.zero_add] at hck
    have HS3 := Lib.hid hs3
    have HG3 := Lib.hid (grownBy_trans HG2.out hg3)
    clear hs3 hg3
    go_wp2
    go_ret
    exact ⟨rfl, HS3.out, HG3.out⟩
  · rw [if_neg (by omega), if_neg (by omega), if_neg (by omega)] at e1
    obtain ⟨q, hq⟩ : ∃ q : Nat, nextV r.tail 28 = q := ⟨(nextV r.tail 28).toNat, by have := nextV_bd r.tail 28 (by omega); omega⟩
    have hqn : q < 28 := by have := nextV_bd r.tail 28 (by omega); omega
    rw [hq, Int.toNat_natCast] at e1
    have HQ := Lib.hid hq
    have HE := Lib.hid e1
    clear hq e1
    have HV := Lib.hid hv
    clear hv
    go_enter Try.func28, Try.ntmps28
    go_wp2_with fail
    refine (pool_any _).mono ?_
    rintro e w1 ⟨rfl, hi1, hz1, hb1⟩
    have HI1 := Lib.hid hi1
    have HB1 := Lib.hid hb1
    clear hi1 hb1
    go_wp2_with fail
    refine (next_at g r 8 _ _ (HS.out.below HB1.out) (by omega) (by omega) HV).mono ?_
    rintro e w2 ⟨rfl, hs2, hg2⟩
    have HS2 := Lib.hid hs2
    have HG2 := Lib.hid (grownBy_trans (below_grownBy HB1.out _) hg2)
    have HI2 := Lib.hid (HI1.out.grown hg2 (by intro b off e; cases e; omega))
    clear hs2 hg2 HI1 HB1
    go_wp2_with fail
    refine (next_at g r.tail 28 q _ HS2.out (by omega) (by omega) HQ).mono ?_
    rintro e w3 ⟨rfl, hs3, hg3⟩
    obtain ⟨_, _, hbe, hck⟩ := (HI2.out.grown hg3 (by intro b off e; cases e; omega)) q hqn
    cases hbe
    rw [HE.out, Nat.zero_add] at hck
    have HS3 := Lib.hid hs3
    have HG3 := Lib.hid (grownBy_trans HG2.out hg3)
    clear hs3 hg3
    go_wp2
    go_ret
    exact ⟨rfl, HS3.out, HG3.out⟩
  · rw [if_neg (by omega), if_neg (by omega), if_neg (by omega)] at e1
    obtain ⟨q, hq⟩ : ∃ q : Nat, nextV r.tail 28 = q := ⟨(nextV r.tail 28).toNat, by have := nextV_bd r.tail 28 (by omega); omega⟩
    have hqn : q < 28 := by have := nextV_bd r.tail 28 (by omega); omega
    rw [hq, Int.toNat_natCast] at e1
    have HQ := Lib.hid hq
    have HE := Lib.hid e1
    clear hq e1
    have HV := Lib.hid hv
    clear hv
    go_enter Try.func28, Try.ntmps28
    go_wp2_with fail
    refine (pool_any _).mono ?_
    rintro e w1 ⟨rfl, hi1, hz1, hb1⟩
    have HI1 := Lib.hid hi1
    have HB1 := Lib.hid hb1
    clear hi1 hb1
    go_wp2_with fail
    refine (next_at g r 8 _ _ (HS.out.below HB1.out) (by omega) (by omega) HV).mono ?_
    rintro e w2 ⟨rfl, hs2, hg2⟩
    have HS2 := Lib.hid hs2
    have HG2 := Lib.hid (grownBy_trans (below_grownBy HB1.out _) hg2)
    have HI2 := Lib.hid (HI1.out.grown hg2 (by intro b off e; cases e; omega))
    clear hs2 hg2 HI1 HB1
    go_wp2_with fail
    refine (next_at g r.tail 28 q _ HS2.out (by omega) (by omega) HQ).mono ?_
    rintro e w3 ⟨rfl, hs3, hg3⟩
    obtain ⟨_, _, hbe, hck⟩ := (HI2.out.grown hg3 (by intro b off e; cases e; omega)) q hqn
    cases hbe
    rw [HE.out, Nat.zero_add] at hck
    have HS3 := Lib.hid hs3
    have HG3 := Lib.hid (grownBy_trans HG2.out hg3)
    clear hs3 hg3
    go_wp2
    go_ret
    exact ⟨rfl, HS3.out, HG3.out⟩

/-- What 'Points' leaves: a new slice. -/
def PtsNew (xs : List Int) (w : World) (e : Ending) (w' : World) : Prop :=
  ∃ v, e = .returned v ∧ Ints w' w.heap.size v xs ∧ Below w.heap.size w w'

set_option maxHeartbeats 1000000 in
theorem kpoints_at (p : Option Addr) (n cap : Nat) (zs xs : List Int) (w : World) (hin : IntsIn w p zs) (hn : Hid (zs.length = n)) (hl : n ≤ 17592186043904) (hX : Hid (pointsF zs = xs)) :
    Calls Try.prog 9 #[.slice p n cap] w (PtsNew xs w) := by
  have HI := Lib.hid hin
  clear hin
  obtain rfl := hn.out
  obtain ⟨v0, v1⟩ := nextV_bd zs 11 (by omega)
  obtain ⟨m, hm⟩ : ∃ m : Nat, nextV zs 11 = m := ⟨(nextV zs 11).toNat, by omega⟩
  have hm5 : m ≤ 10 := by omega
  have HN := Lib.hid hm
  have HX : Hid (kpL m zs.tail = xs) := by unfold Hid; rw [← hX.out, pointsF, hm]; rfl
  clear v0 v1 hm hX
  obtain ⟨i0, hi, hz0, hz1, hz2⟩ := info_parts Try.info3
  go_enter Try.func9, Try.ntmps9
  go_wp2_with fail
  refine (from_any p cap zs _ HI.out hl).mono ?_
  rintro e w1 ⟨g, rfl, hg, hs1, hb1⟩
  have HS1 := Lib.hid hs1
  have HB1 := Lib.hid hb1
  clear hs1 hb1
  go_wp2_with fail
  refine (next_at g zs 11 m _ HS1.out (by omega) (by omega) HN).mono ?_
  rintro e w2 ⟨rfl, hs2, hg2⟩
  have hb2 : Below w.heap.size w w2 := HB1.out.grown hg2 HB1.out.size (by intro k e; cases e; exact hg)
  have HS2 := Lib.hid hs2
  have HB2 := Lib.hid hb2
  clear hs2 hb2 hg2
  go_wp2
  go_loopw [4, 5] (fun v u wr => ∃ k : Nat, ∃ ys : List Int, ∃ r : List Int, k ≤ 10 ∧ u = .int .i64 k ∧ ys.length + k ≤ 10 ∧ Hid (ys ++ kpL k r = xs) ∧ Hid (Src wr g r) ∧ Hid (Ints wr (g + 1) v ys) ∧ Hid (g < wr.heap.size) ∧ Hid (Below w.heap.size w wr)) (fun _ u _ => (intOf u).toNat)
  case atStart => exact ⟨m, [], zs.tail, by omega, rfl, by simp; omega, HX, HS2, Ints.nil _ _, by obtain ⟨_, _, _, _, _, _, _, h4, _⟩ := HS2.out; exact World.block_lt_of_cell? w2 _ h4, HB2⟩
  case round =>
    obtain ⟨k, ys, r, hk, rfl, hxk, ha, hs, hown, hgl, hbel⟩ := hrel
    by_cases h0 : 0 < k
    · obtain ⟨j, rfl⟩ : ∃ j, k = j + 1 := ⟨k - 1, by omega⟩
      have hgl' := hgl.out
      obtain ⟨c, r', hA⟩ : ∃ c r', kpA r = (c, r') := ⟨_, _, rfl⟩
      have HA := Lib.hid hA
      have HE : Hid ((ys ++ [c]) ++ kpL j r' = xs) := by
        have h1 := ha.out
        unfold Hid
        rw [kpL, hA] at h1
        rw [← h1]; simp
      clear hA ha
      go_wp2_with fail
      refine (kpoint_at g r r' c _ hs.out HA).mono ?_
      rintro e w3 ⟨rfl, hs3, hg3⟩
      have hown3 : w3.ownsRow (g + 1) 3 1 u4 ys.length (ys.map (.int .i64)) := hown.out.kept hg3 (by
        cases hv : Value.ownBlock u4 with
        | none => simp
        | some b => have := (hown.out.lt b hv).1; simp; omega)
      have hbel3 : Below w.heap.size w w3 := hbel.out.grown hg3 hbel.out.size (by intro j e; cases e; exact hg)
      have HS3 := Lib.hid hs3
      have HB3 := Lib.hid hbel3
      have hz3 := hg3.size
      clear hs3 hg3 hbel3
      go_wp2_with (at_builtin; refine wpList_append_own _ rfl _ _ 22 rfl (g + 1) 3 i0 (.int .i64 0) 1 8 Try.underlying22 hi hz0 hz1 hz2 rfl (by decide) _ _ _ rfl (hown3.alloc _) ⟨_, 0, none⟩ 1 1 [.int .i64 c] rfl rfl (cell_one_new _ _ _) ?c2 ?c3 ?c4 ?c5 ?_)
      case c2 => intro u hu; simp at hu; subst hu; rfl
      case c3 => unfold maxLen; omega
      case c4 => omega
      case c5 => simp; omega
      intro v' w4 hown4 hg4 _
      have hz4 := hg4.size
      have hI : Ints w4 (g + 1) v' (ys ++ [c]) := by unfold Ints; simpa using hown4
      have hB : Below w.heap.size w w4 := (HB3.out.alloc HB3.out.size _).grown hg4 (by have := HB3.out.size; simp; omega) (fun j hj => by have := (hown3.lt j hj).1; omega)
      have hS : Src w4 g r' := (HS3.out.alloc _).grown hg4 (fun j hj => by have := (hown3.lt j hj).1; omega)
      have HI2 := Lib.hid hI
      have HB := Lib.hid hB
      have HS := Lib.hid hS
      have hgw : g < w4.heap.size := by simp at hz4; omega
      have HG := Lib.hid hgw
      clear hI hB hS hgw hown4 hg4 hown3 hz4
      go_wp2
      go_roundw
      case rel => exact ⟨j, ys ++ [c], r', by omega, by go_num, by simp; omega, HE, HS, HI2, HG, HB⟩
      case measure => simp [intOf]
    · obtain rfl : k = 0 := by omega
      have HE : Hid (ys = xs) := by
        have := ha.out
        simp [kpL] at this
        exact this
      have HO : Hid (Ints wr w.heap.size u4 xs) := by rw [← HE.out]; exact ownsRow_mono hown.out (by omega)
      have HB2 := Lib.hid hbel.out
      clear ha hown hbel
      go_wp2
      go_ret
      exact ⟨_, rfl, HO.out, HB2.out⟩

end Go.Proofs.Ytebhliepncmghaa
