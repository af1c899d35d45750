/-
  The contracts of keep.From, pool, point, Points.
-/
import Derived.Test.YtebhliepncmghaaPkG
import Derived.Test.YtebhliepncmghaaQAwake
set_option linter.unusedSimpArgs false
set_option linter.unusedVariables false
namespace Go.Proofs.Ytebhliepncmghaa
open Go.RowKit

/-- A new source. -/
def NewSrc (zs : List Int) (w : World) (e : Ending) (w' : World) : Prop :=
  ∃ g, e = .returned (.pointer (some ⟨g, 0, none⟩)) ∧ w.heap.size ≤ g ∧ Src w' g zs ∧ Below w.heap.size w w'

set_option maxHeartbeats 400000 in
theorem from_any (p : Option Addr) (cap : Nat) (zs : List Int) (w : World) (hin : IntsIn w p zs) (hl : zs.length ≤ 17592186043904) :
    Calls Try.prog 26 #[.slice p zs.length cap] w (NewSrc zs w) := by
  have HI := Lib.hid hin
  by_cases h0 : zs = []
  · subst h0
    clear hin
    go_enter Try.func26, Try.ntmps26
    go_wp2
    go_ret
    refine ⟨w.heap.size, rfl, Nat.le_refl _, ⟨[], 0, p, cap, rfl, Nat.le_refl _, by simp, ?_, ?_, ?_, HI.out.alloc _, fun h => absurd rfl h⟩, (Below.refl _ _).alloc (Nat.le_refl _) _⟩
    · simp
    · simp
    · simp
  · have hp : ∀ b off, p = some ⟨b, off, none⟩ → b < w.heap.size := by
      intro b off e
      obtain ⟨b', off', e', hc⟩ := hin 0 (List.length_pos_iff.2 h0)
      rw [e] at e'
      cases e'
      have := World.block_lt_of_cell? w _ hc
      simp only at this
      omega
    have HP := Lib.hid hp
    clear hin hp
    go_enter Try.func26, Try.ntmps26
    go_wp2
    go_ret
    refine ⟨w.heap.size, rfl, Nat.le_refl _, ⟨zs, 0, p, cap, rfl, Nat.zero_le _, hl, ?_, ?_, ?_, HI.out.alloc _, fun _ => HP.out⟩, (Below.refl _ _).alloc (Nat.le_refl _) _⟩
    · simp
    · simp
    · simp

def poolL : List Int := [173, 183, 769, 776, 803, 837, 885, 945, 946, 947, 1072, 1488, 1523, 1576, 1577, 1632, 1776, 2381, 7680, 7681, 7682, 7683, 7684, 8204, 8205, 12539, 19968, 128512]

theorem pool_any (w : World) :
    Calls Try.prog 35 #[] w fun e w' => e = .returned (.slice (some ⟨w.heap.size, 0, none⟩) 28 28) ∧ IntsIn w' (some ⟨w.heap.size, 0, none⟩) poolL ∧ w.heap.size < w'.heap.size ∧ Below w.heap.size w w' := by
  go_enter Try.func35, Try.ntmps35
  go_wp2
  go_ret
  exact ⟨rfl, ints_lit_new _ _ poolL _ rfl, by simp, (Below.refl _ _).alloc (Nat.le_refl _) _⟩

theorem next_at (g : Nat) (r : List Int) (n v : Int) (w : World) (hs : Src w g r) (h0 : 1 ≤ n) (h1 : n ≤ 1073741824) (hv : Hid (nextV r n = v)) :
    Calls Try.prog 27 #[.pointer (some ⟨g, 0, none⟩), .int .i64 n] w (NextPost g v r.tail w) := hv.out ▸ next_any g r n w hs h0 h1

/-- What 'point' leaves: a scalar value. -/
def PointPost (g : Nat) (w : World) (e : Ending) (w' : World) : Prop :=
  ∃ (c : Int) (r : List Int), e = .returned (.int .i64 c) ∧ lenS c ≠ 0 ∧ Src w' g r ∧ w.grownBy w' (some g)

theorem pool_scalar : ∀ j, j < 28 → lenS (poolL.getD j 0) ≠ 0 := by decide +kernel
theorem few_scalar : ∀ j, j < 4 → lenS ([4352, 4449, 4520, 46].getD j 0) ≠ 0 := by decide +kernel
theorem lit_small : ∀ q (h : q < 12), ((#[97, 98, 109, 110, 111, 114, 48, 45, 120, 65, 90, 49] : Array UInt8)[q]).toNat ≤ 127 := by decide +kernel

set_option maxHeartbeats 1000000 in
theorem point_any (g : Nat) (r : List Int) (w : World) (hs : Src w g r) :
    Calls Try.prog 28 #[.pointer (some ⟨g, 0, none⟩)] w (PointPost g w) := by
  have HS := Lib.hid hs
  have hg : g < w.heap.size := by obtain ⟨_, _, _, _, _, _, _, h4, _⟩ := hs; exact World.block_lt_of_cell? w _ h4
  clear hs
  obtain ⟨v0, v1⟩ := nextV_bd r 8 (by omega)
  have hv : nextV r 8 = 0 ∨ nextV r 8 = 1 ∨ nextV r 8 = 2 ∨ nextV r 8 = 3 ∨ nextV r 8 = 4 ∨ nextV r 8 = 5 ∨ nextV r 8 = 6 ∨ nextV r 8 = 7 := by omega
  clear v0 v1
  rcases hv with hv | hv | hv | hv | hv | hv | hv | hv
  all_goals
    have HV := Lib.hid hv
    clear hv
    go_enter Try.func28, Try.ntmps28
    go_wp2_with fail
    refine (pool_any _).mono ?_
    rintro e w1 ⟨rfl, hi1, hz1, hb1⟩
    have HI1 := Lib.hid hi1
    have HB1 := Lib.hid hb1
    clear hi1 hb1
    go_wp2_with fail
    refine (next_at g r 8 _ _ (HS.out.below HB1.out) (by omega) (by omega) HV).mono ?_
    rintro e w2 ⟨rfl, hs2, hg2⟩
    have HS2 := Lib.hid hs2
    have HG2 := Lib.hid (grownBy_trans (below_grownBy HB1.out _) hg2)
    have HI2 := Lib.hid (HI1.out.grown hg2 (by intro b off e; cases e; omega))
    clear hs2 hg2 HI1 HB1
    go_wp2_with fail
  · obtain ⟨q, hq⟩ : ∃ q : Nat, nextV r.tail 12 = q := ⟨(nextV r.tail 12).toNat, by have := nextV_bd r.tail 12 (by omega); omega⟩
    have hq12 : q < 12 := by have := nextV_bd r.tail 12 (by omega); omega
    have HQ := Lib.hid hq
    have hsm := lit_small q hq12
    obtain ⟨y, hy⟩ : ∃ y : Int, (((ByteArray.mk #[97, 98, 109, 110, 111, 114, 48, 45, 120, 65, 90, 49])[q]'(hq12)).toNat : Int) = y := ⟨_, rfl⟩
    have hy0 : 0 ≤ y ∧ y ≤ 127 := by rw [← hy]; exact ⟨by omega, by exact_mod_cast hsm⟩
    have HN : Hid (lenS y ≠ 0) := by unfold Hid lenS; omega
    obtain ⟨hy0, hy1⟩ := hy0
    clear hq hsm
    refine (next_at g r.tail 12 q _ HS2.out (by omega) (by omega) HQ).mono ?_
    rintro e w3 ⟨rfl, hs3, hg3⟩
    have HS3 := Lib.hid hs3
    have HG3 := Lib.hid (grownBy_trans HG2.out hg3)
    clear hs3 hg3
    go_wp2
    go_ret
    exact ⟨y, _, rfl, HN.out, HS3.out, HG3.out⟩
  · obtain ⟨q, hq⟩ : ∃ q : Nat, nextV r.tail 12 = q := ⟨(nextV r.tail 12).toNat, by have := nextV_bd r.tail 12 (by omega); omega⟩
    have hq12 : q < 12 := by have := nextV_bd r.tail 12 (by omega); omega
    have HQ := Lib.hid hq
    have hsm := lit_small q hq12
    obtain ⟨y, hy⟩ : ∃ y : Int, (((ByteArray.mk #[97, 98, 109, 110, 111, 114, 48, 45, 120, 65, 90, 49])[q]'(hq12)).toNat : Int) = y := ⟨_, rfl⟩
    have hy0 : 0 ≤ y ∧ y ≤ 127 := by rw [← hy]; exact ⟨by omega, by exact_mod_cast hsm⟩
    have HN : Hid (lenS y ≠ 0) := by unfold Hid lenS; omega
    obtain ⟨hy0, hy1⟩ := hy0
    clear hq hsm
    refine (next_at g r.tail 12 q _ HS2.out (by omega) (by omega) HQ).mono ?_
    rintro e w3 ⟨rfl, hs3, hg3⟩
    have HS3 := Lib.hid hs3
    have HG3 := Lib.hid (grownBy_trans HG2.out hg3)
    clear hs3 hg3
    go_wp2
    go_ret
    exact ⟨y, _, rfl, HN.out, HS3.out, HG3.out⟩
  · obtain ⟨q, hq⟩ : ∃ q : Nat, nextV r.tail 12 = q := ⟨(nextV r.tail 12).toNat, by have := nextV_bd r.tail 12 (by omega); omega⟩
    have hq12 : q < 12 := by have := nextV_bd r.tail 12 (by omega); omega
    have HQ := Lib.hid hq
    have hsm := lit_small q hq12
    obtain ⟨y, hy⟩ : ∃ y : Int, (((ByteArray.mk #[97, 98, 109, 110, 111, 114, 48, 45, 120, 65, 90, 49])[q]'(hq12)).toNat : Int) = y := ⟨_, rfl⟩
    have hy0 : 0 ≤ y ∧ y ≤ 127 := by rw [← hy]; exact ⟨by omega, by exact_mod_cast hsm⟩
    have HN : Hid (lenS y ≠ 0) := by unfold Hid lenS; omega
    obtain ⟨hy0, hy1⟩ := hy0
    clear hq hsm
    refine (next_at g r.tail 12 q _ HS2.out (by omega) (by omega) HQ).mono ?_
    rintro e w3 ⟨rfl, hs3, hg3⟩
    have HS3 := Lib.hid hs3
    have HG3 := Lib.hid (grownBy_trans HG2.out hg3)
    clear hs3 hg3
    go_wp2
    go_ret
    exact ⟨y, _, rfl, HN.out, HS3.out, HG3.out⟩
  · obtain ⟨q, hq⟩ : ∃ q : Int, nextV r.tail 60 = q := ⟨_, rfl⟩
    obtain ⟨hq0, hq1⟩ := nextV_bd r.tail 60 (by omega)
    rw [hq] at hq0 hq1
    have HQ := Lib.hid hq
    clear hq
    have HN : Hid (lenS (44032 + q) ≠ 0) := by unfold Hid lenS; omega
    refine (next_at g r.tail 60 q _ HS2.out (by omega) (by omega) HQ).mono ?_
    rintro e w3 ⟨rfl, hs3, hg3⟩
    have HS3 := Lib.hid hs3
    have HG3 := Lib.hid (grownBy_trans HG2.out hg3)
    clear hs3 hg3
    go_wp2
    go_ret
    exact ⟨_, _, rfl, HN.out, HS3.out, HG3.out⟩
  · obtain ⟨q, hq⟩ : ∃ q : Nat, nextV r.tail 4 = q := ⟨(nextV r.tail 4).toNat, by have := nextV_bd r.tail 4 (by omega); omega⟩
    have hqn : q < 4 := by have := nextV_bd r.tail 4 (by omega); omega
    have HQ := Lib.hid hq
    clear hq
    have HN : Hid (lenS (([4352, 4449, 4520, 46] : List Int).getD q 0) ≠ 0) := few_scalar q hqn
    obtain ⟨y, hy⟩ : ∃ y, ([4352, 4449, 4520, 46] : List Int).getD q 0 = y := ⟨_, rfl⟩
    rw [hy] at HN
    refine (next_at g r.tail 4 q _ (HS2.out.alloc _) (by omega) (by omega) HQ).mono ?_
    rintro e w3 ⟨rfl, hs3, hg3⟩
    obtain ⟨_, _, hbe, hck⟩ := ((ints_lit_new w2 #[.int .i64 4352, .int .i64 4449, .int .i64 4520, .int .i64 46] [4352, 4449, 4520, 46] _ rfl).grown hg3 (by intro b off e; cases e; have := HG2.out.size; omega)) q hqn
    cases hbe
    rw [hy, Nat.zero_add] at hck
    have HS3 := Lib.hid hs3
    have HG3 := Lib.hid (grownBy_trans (grownBy_trans HG2.out (World.grownBy_alloc _ _ _)) hg3)
    clear hs3 hg3 hy
    go_wp2
    go_ret
    exact ⟨y, _, rfl, HN.out, HS3.out, HG3.out⟩
  · obtain ⟨q, hq⟩ : ∃ q : Nat, nextV r.tail 28 = q := ⟨(nextV r.tail 28).toNat, by have := nextV_bd r.tail 28 (by omega); omega⟩
    have hqn : q < 28 := by have := nextV_bd r.tail 28 (by omega); omega
    have HQ := Lib.hid hq
    clear hq
    have HN : Hid (lenS (poolL.getD q 0) ≠ 0) := pool_scalar q hqn
    obtain ⟨y, hy⟩ : ∃ y, poolL.getD q 0 = y := ⟨_, rfl⟩
    rw [hy] at HN
    refine (next_at g r.tail 28 q _ HS2.out (by omega) (by omega) HQ).mono ?_
    rintro e w3 ⟨rfl, hs3, hg3⟩
    obtain ⟨_, _, hbe, hck⟩ := (HI2.out.grown hg3 (by intro b off e; cases e; omega)) q hqn
    cases hbe
    rw [hy, Nat.zero_add] at hck
    have HS3 := Lib.hid hs3
    have HG3 := Lib.hid (grownBy_trans HG2.out hg3)
    clear hs3 hg3 hy
    go_wp2
    go_ret
    exact ⟨y, _, rfl, HN.out, HS3.out, HG3.out⟩
  · obtain ⟨q, hq⟩ : ∃ q : Nat, nextV r.tail 28 = q := ⟨(nextV r.tail 28).toNat, by have := nextV_bd r.tail 28 (by omega); omega⟩
    have hqn : q < 28 := by have := nextV_bd r.tail 28 (by omega); omega
    have HQ := Lib.hid hq
    clear hq
    have HN : Hid (lenS (poolL.getD q 0) ≠ 0) := pool_scalar q hqn
    obtain ⟨y, hy⟩ : ∃ y, poolL.getD q 0 = y := ⟨_, rfl⟩
    rw [hy] at HN
    refine (next_at g r.tail 28 q _ HS2.out (by omega) (by omega) HQ).mono ?_
    rintro e w3 ⟨rfl, hs3, hg3⟩
    obtain ⟨_, _, hbe, hck⟩ := (HI2.out.grown hg3 (by intro b off e; cases e; omega)) q hqn
    cases hbe
    rw [hy, Nat.zero_add] at hck
    have HS3 := Lib.hid hs3
    have HG3 := Lib.hid (grownBy_trans HG2.out hg3)
    clear hs3 hg3 hy
    go_wp2
    go_ret
    exact ⟨y, _, rfl, HN.out, HS3.out, HG3.out⟩
  · obtain ⟨q, hq⟩ : ∃ q : Nat, nextV r.tail 28 = q := ⟨(nextV r.tail 28).toNat, by have := nextV_bd r.tail 28 (by omega); omega⟩
    have hqn : q < 28 := by have := nextV_bd r.tail 28 (by omega); omega
    have HQ := Lib.hid hq
    clear hq
    have HN : Hid (lenS (poolL.getD q 0) ≠ 0) := pool_scalar q hqn
    obtain ⟨y, hy⟩ : ∃ y, poolL.getD q 0 = y := ⟨_, rfl⟩
    rw [hy] at HN
    refine (next_at g r.tail 28 q _ HS2.out (by omega) (by omega) HQ).mono ?_
    rintro e w3 ⟨rfl, hs3, hg3⟩
    obtain ⟨_, _, hbe, hck⟩ := (HI2.out.grown hg3 (by intro b off e; cases e; omega)) q hqn
    cases hbe
    rw [hy, Nat.zero_add] at hck
    have HS3 := Lib.hid hs3
    have HG3 := Lib.hid (grownBy_trans HG2.out hg3)
    clear hs3 hg3 hy
    go_wp2
    go_ret
    exact ⟨y, _, rfl, HN.out, HS3.out, HG3.out⟩

/-- What 'Points' leaves: at most ten scalar values in a new slice. -/
def PointsPost (w : World) (e : Ending) (w' : World) : Prop :=
  ∃ (xs : List Int) (p : Option Addr) (cap : Nat), e = .returned (.slice p xs.length cap) ∧ xs.length ≤ 10 ∧ allS xs = true ∧ IntsIn w' p xs ∧ Below w.heap.size w w'

set_option maxHeartbeats 1000000 in
theorem points_any (p : Option Addr) (cap : Nat) (zs : List Int) (w : World) (hin : IntsIn w p zs) (hl : zs.length ≤ 17592186043904) :
    Calls Try.prog 9 #[.slice p zs.length cap] w (PointsPost w) := by
  have HI := Lib.hid hin
  clear hin
  obtain ⟨v0, v1⟩ := nextV_bd zs 11 (by omega)
  obtain ⟨n, hn⟩ : ∃ n : Nat, nextV zs 11 = n := ⟨(nextV zs 11).toNat, by omega⟩
  have hn10 : n ≤ 10 := by omega
  have HN := Lib.hid hn
  clear v0 v1 hn
  obtain ⟨i0, hi, hz0, hz1, hz2⟩ := info_parts Try.info3
  go_enter Try.func9, Try.ntmps9
  go_wp2_with fail
  refine (from_any p cap zs _ HI.out hl).mono ?_
  rintro e w1 ⟨g, rfl, hg, hs1, hb1⟩
  have HS1 := Lib.hid hs1
  have HB1 := Lib.hid hb1
  clear hs1 hb1
  go_wp2_with fail
  refine (next_at g zs 11 n _ HS1.out (by omega) (by omega) HN).mono ?_
  rintro e w2 ⟨rfl, hs2, hg2⟩
  have hb2 : Below w.heap.size w w2 := HB1.out.grown hg2 HB1.out.size (by intro k e; cases e; exact hg)
  have HS2 := Lib.hid hs2
  have HB2 := Lib.hid hb2
  clear hs2 hb2 hg2
  go_wp2
  go_loopw [4, 5] (fun v m wr => ∃ k : Nat, ∃ xs : List Int, ∃ r : List Int, k ≤ 10 ∧ m = .int .i64 k ∧ xs.length + k ≤ 10 ∧ Hid (allS xs = true) ∧ Hid (Src wr g r) ∧ Hid (Ints wr (g + 1) v xs) ∧ Hid (g < wr.heap.size) ∧ Hid (Below w.heap.size w wr)) (fun _ m _ => (intOf m).toNat)
  case atStart => exact ⟨n, [], zs.tail, hn10, rfl, by simp; omega, rfl, HS2, Ints.nil _ _, by obtain ⟨_, _, _, _, _, _, _, h4, _⟩ := HS2.out; exact World.block_lt_of_cell? w2 _ h4, HB2⟩
  case round =>
    obtain ⟨k, xs, r, hk, rfl, hxk, ha, hs, hown, hgl, hbel⟩ := hrel
    by_cases h0 : 0 < k
    · have hgl' := hgl.out
      go_wp2_with fail
      refine (point_any g r _ hs.out).mono ?_
      rintro e w3 ⟨c, r', rfl, hc, hs3, hg3⟩
      have hown3 : w3.ownsRow (g + 1) 3 1 u4 xs.length (xs.map (.int .i64)) := hown.out.kept hg3 (by
        cases hv : Value.ownBlock u4 with
        | none => simp
        | some b => have := (hown.out.lt b hv).1; simp; omega)
      have hbel3 : Below w.heap.size w w3 := hbel.out.grown hg3 hbel.out.size (by intro j e; cases e; exact hg)
      have HC := Lib.hid hc
      have HS3 := Lib.hid hs3
      have HB3 := Lib.hid hbel3
      have hz3 := hg3.size
      clear hc hs3 hg3 hbel3
      go_wp2_with (at_builtin; refine wpList_append_own _ rfl _ _ 22 rfl (g + 1) 3 i0 (.int .i64 0) 1 8 Try.underlying22 hi hz0 hz1 hz2 rfl (by decide) _ _ _ rfl (hown3.alloc _) ⟨_, 0, none⟩ 1 1 [.int .i64 c] rfl rfl (cell_one_new _ _ _) ?c2 ?c3 ?c4 ?c5 ?_)
      case c2 => intro u hu; simp at hu; subst hu; rfl
      case c3 => unfold maxLen; omega
      case c4 => omega
      case c5 => simp; omega
      intro v' w4 hown4 hg4 _
      have hz4 := hg4.size
      have hA : allS (xs ++ [c]) = true := by rw [allS_snoc, ha.out]; simpa using HC.out
      have hI : Ints w4 (g + 1) v' (xs ++ [c]) := by unfold Ints; simpa using hown4
      have hB : Below w.heap.size w w4 := (HB3.out.alloc HB3.out.size _).grown hg4 (by have := HB3.out.size; simp; omega) (fun j hj => by have := (hown3.lt j hj).1; omega)
      have hS : Src w4 g r' := (HS3.out.alloc _).grown hg4 (fun j hj => by have := (hown3.lt j hj).1; omega)
      have HA := Lib.hid hA
      have HI := Lib.hid hI
      have HB := Lib.hid hB
      have HS := Lib.hid hS
      have hgw : g < w4.heap.size := by simp at hz4; omega
      have HG := Lib.hid hgw
      clear hA hI hB hS hgw hown4 hg4 hown3 hz4
      go_wp2
      go_roundw
      case rel => exact ⟨k - 1, xs ++ [c], r', by omega, by go_num, by simp; omega, HA, HS, HI, HG, HB⟩
      case measure => simp [intOf]; omega
    · obtain rfl : k = 0 := by omega
      obtain ⟨q, cp, rfl, hin⟩ := hown.out.inn
      have HI2 := Lib.hid hin
      clear hin
      go_wp2
      go_ret
      exact ⟨xs, q, cp, rfl, by omega, ha.out, HI2.out, hbel.out⟩

end Go.Proofs.Ytebhliepncmghaa
