/-
  The contracts of keep.point, keep.Points; of table.Maps.
  slices.Clone, table.sequenceOf, table.Maps; what well-formed tables map.
-/
import Derived.Test.YtnmckcfaalakoaaGreatDoorSMbTblJ
set_option linter.unusedSimpArgs false
set_option linter.unusedVariables false
namespace Go.Proofs.YtnmckcfaalakoaaGreatDoor
open Go.RowKit
set_option linter.unusedVariables false

/-- What 'point' leaves: a scalar value. -/
def PointPost (g : Nat) (w : World) (e : Ending) (w' : World) : Prop :=
  ∃ (c : Int) (r : List Int), e = .returned (.int .i64 c) ∧ scaB c = true ∧ Src w' g r ∧ w.grownBy w' (some g)

theorem pool_scalar : ∀ j, j < 28 → scaB (poolL.getD j 0) = true := by decide +kernel
theorem few_scalar : ∀ j, j < 4 → scaB ([4352, 4449, 4520, 46].getD j 0) = true := by decide +kernel
theorem lit_small : ∀ q (h : q < 12), ((#[97, 98, 109, 110, 111, 114, 48, 45, 120, 65, 90, 49] : Array UInt8)[q]).toNat ≤ 127 := by decide +kernel

set_option maxHeartbeats 1000000 in
theorem point_any (g : Nat) (r : List Int) (w : World) (hs : Src w g r) :
    Calls Tryz.prog 27 #[.pointer (some ⟨g, 0, none⟩)] w (PointPost g w) := by
  have HS := Lib.hid hs
  have hg : g < w.heap.size := by obtain ⟨_, _, _, _, _, _, _, h4, _⟩ := hs; exact World.block_lt_of_cell? w _ h4
  clear hs
  obtain ⟨v0, v1⟩ := nextV_bd r 8 (by omega)
  have hv : nextV r 8 = 0 ∨ nextV r 8 = 1 ∨ nextV r 8 = 2 ∨ nextV r 8 = 3 ∨ nextV r 8 = 4 ∨ nextV r 8 = 5 ∨ nextV r 8 = 6 ∨ nextV r 8 = 7 := by omega
  clear v0 v1
  rcases hv with hv | hv | hv | hv | hv | hv | hv | hv
  all_goals
    have HV := Lib.hid hv
    clear hv
    go_enter Tryz.func27, Tryz.ntmps27
    go_wp2_with fail
    refine (pool_any _).mono ?_
    rintro e w1 ⟨rfl, hi1, hz1, hb1⟩
    have HI1 := Lib.hid hi1
    have HB1 := Lib.hid hb1
    clear hi1 hb1
    go_wp2_with fail
    refine (next_at g r 8 _ _ (HS.out.below HB1.out) (by omega) (by omega) HV).mono ?_
    rintro e w2 ⟨rfl, hs2, hg2⟩
    have HS2 := Lib.hid hs2
    have HG2 := Lib.hid (grownBy_trans (below_grownBy HB1.out _) hg2)
    have HI2 := Lib.hid (HI1.out.grown hg2 (by intro b off e; cases e; omega))
    clear hs2 hg2 HI1 HB1
    go_wp2_with fail
  · obtain ⟨q, hq⟩ : ∃ q : Nat, nextV r.tail 12 = q := ⟨(nextV r.tail 12).toNat, by have := nextV_bd r.tail 12 (by omega); omega⟩
    have hq12 : q < 12 := by have := nextV_bd r.tail 12 (by omega); omega
    have HQ := Lib.hid hq
    have hsm := lit_small q hq12
    obtain ⟨y, hy⟩ : ∃ y : Int, (((ByteArray.mk #[97, 98, 109, 110, 111, 114, 48, 45, 120, 65, 90, 49])[q]'(hq12)).toNat : Int) = y := ⟨_, rfl⟩
    have hy0 : 0 ≤ y ∧ y ≤ 127 := by rw [← hy]; exact ⟨by omega, by exact_mod_cast hsm⟩
    have HN : Hid (scaB y = true) := by unfold Hid scaB; simp; omega
    obtain ⟨hy0, hy1⟩ := hy0
    clear hq hsm
    refine (next_at g r.tail 12 q _ HS2.out (by omega) (by omega) HQ).mono ?_
    rintro e w3 ⟨rfl, hs3, hg3⟩
    have HS3 := Lib.hid hs3
    have HG3 := Lib.hid (grownBy_trans HG2.out hg3)
    clear hs3 hg3
    go_wp2
    go_ret
    exact ⟨y, _, rfl, HN.out, HS3.out, HG3.out⟩
  · obtain ⟨q, hq⟩ : ∃ q : Nat, nextV r.tail 12 = q := ⟨(nextV r.tail 12).toNat, by have := nextV_bd r.tail 12 (by omega); omega⟩
    have hq12 : q < 12 := by have := nextV_bd r.tail 12 (by omega); omega
    have HQ := Lib.hid hq
    have hsm := lit_small q hq12
    obtain ⟨y, hy⟩ : ∃ y : Int, (((ByteArray.mk #[97, 98, 109, 110, 111, 114, 48, 45, 120, 65, 90, 49])[q]'(hq12)).toNat : Int) = y := ⟨_, rfl⟩
    have hy0 : 0 ≤ y ∧ y ≤ 127 := by rw [← hy]; exact ⟨by omega, by exact_mod_cast hsm⟩
    have HN : Hid (scaB y = true) := by unfold Hid scaB; simp; omega
    obtain ⟨hy0, hy1⟩ := hy0
    clear hq hsm
    refine (next_at g r.tail 12 q _ HS2.out (by omega) (by omega) HQ).mono ?_
    rintro e w3 ⟨rfl, hs3, hg3⟩
    have HS3 := Lib.hid hs3
    have HG3 := Lib.hid (grownBy_trans HG2.out hg3)
    clear hs3 hg3
    go_wp2
    go_ret
    exact ⟨y, _, rfl, HN.out, HS3.out, HG3.out⟩
  · obtain ⟨q, hq⟩ : ∃ q : Nat, nextV r.tail 12 = q := ⟨(nextV r.tail 12).toNat, by have := nextV_bd r.tail 12 (by omega); omega⟩
    have hq12 : q < 12 := by have := nextV_bd r.tail 12 (by omega); omega
    have HQ := Lib.hid hq
    have hsm := lit_small q hq12
    obtain ⟨y, hy⟩ : ∃ y : Int, (((ByteArray.mk #[97, 98, 109, 110, 111, 114, 48, 45, 120, 65, 90, 49])[q]'(hq12)).toNat : Int) = y := ⟨_, rfl⟩
    have hy0 : 0 ≤ y ∧ y ≤ 127 := by rw [← hy]; exact ⟨by omega, by exact_mod_cast hsm⟩
    have HN : Hid (scaB y = true) := by unfold Hid scaB; simp; omega
    obtain ⟨hy0, hy1⟩ := hy0
    clear hq hsm
    refine (next_at g r.tail 12 q _ HS2.out (by omega) (by omega) HQ).mono ?_
    rintro e w3 ⟨rfl, hs3, hg3⟩
    have HS3 := Lib.hid hs3
    have HG3 := Lib.hid (grownBy_trans HG2.out hg3)
    clear hs3 hg3
    go_wp2
    go_ret
    exact ⟨y, _, rfl, HN.out, HS3.out, HG3.out⟩
  · obtain ⟨q, hq⟩ : ∃ q : Int, nextV r.tail 60 = q := ⟨_, rfl⟩
    obtain ⟨hq0, hq1⟩ := nextV_bd r.tail 60 (by omega)
    rw [hq] at hq0 hq1
    have HQ := Lib.hid hq
    clear hq
    have HN : Hid (scaB (44032 + q) = true) := by unfold Hid scaB; simp; omega
    refine (next_at g r.tail 60 q _ HS2.out (by omega) (by omega) HQ).mono ?_
    rintro e w3 ⟨rfl, hs3, hg3⟩
    have HS3 := Lib.hid hs3
    have HG3 := Lib.hid (grownBy_trans HG2.out hg3)
    clear hs3 hg3
    go_wp2
    go_ret
    exact ⟨_, _, rfl, HN.out, HS3.out, HG3.out⟩
  · obtain ⟨q, hq⟩ : ∃ q : Nat, nextV r.tail 4 = q := ⟨(nextV r.tail 4).toNat, by have := nextV_bd r.tail 4 (by omega); omega⟩
    have hqn : q < 4 := by have := nextV_bd r.tail 4 (by omega); omega
    have HQ := Lib.hid hq
    clear hq
    have HN : Hid (scaB (([4352, 4449, 4520, 46] : List Int).getD q 0) = true) := few_scalar q hqn
    obtain ⟨y, hy⟩ : ∃ y, ([4352, 4449, 4520, 46] : List Int).getD q 0 = y := ⟨_, rfl⟩
    rw [hy] at HN
    refine (next_at g r.tail 4 q _ (HS2.out.alloc _) (by omega) (by omega) HQ).mono ?_
    rintro e w3 ⟨rfl, hs3, hg3⟩
    obtain ⟨_, _, hbe, hck⟩ := ((lit_ints w2 #[.int .i64 4352, .int .i64 4449, .int .i64 4520, .int .i64 46] [4352, 4449, 4520, 46] _ rfl).grown hg3 (by intro b off e; cases e; have := HG2.out.size; omega)) q hqn
    cases hbe
    rw [hy, Nat.zero_add] at hck
    have HS3 := Lib.hid hs3
    have HG3 := Lib.hid (grownBy_trans (grownBy_trans HG2.out (World.grownBy_alloc _ _ _)) hg3)
    clear hs3 hg3 hy
    go_wp2
    go_ret
    exact ⟨y, _, rfl, HN.out, HS3.out, HG3.out⟩
  · obtain ⟨q, hq⟩ : ∃ q : Nat, nextV r.tail 28 = q := ⟨(nextV r.tail 28).toNat, by have := nextV_bd r.tail 28 (by omega); omega⟩
    have hqn : q < 28 := by have := nextV_bd r.tail 28 (by omega); omega
    have HQ := Lib.hid hq
    clear hq
    have HN : Hid (scaB (poolL.getD q 0) = true) := pool_scalar q hqn
    obtain ⟨y, hy⟩ : ∃ y, poolL.getD q 0 = y := ⟨_, rfl⟩
    rw [hy] at HN
    refine (next_at g r.tail 28 q _ HS2.out (by omega) (by omega) HQ).mono ?_
    rintro e w3 ⟨rfl, hs3, hg3⟩
    obtain ⟨_, _, hbe, hck⟩ := (HI2.out.grown hg3 (by intro b off e; cases e; omega)) q hqn
    cases hbe
    rw [hy, Nat.zero_add] at hck
    have HS3 := Lib.hid hs3
    have HG3 := Lib.hid (grownBy_trans HG2.out hg3)
    clear hs3 hg3 hy
    go_wp2
    go_ret
    exact ⟨y, _, rfl, HN.out, HS3.out, HG3.out⟩
  · obtain ⟨q, hq⟩ : ∃ q : Nat, nextV r.tail 28 = q := ⟨(nextV r.tail 28).toNat, by have := nextV_bd r.tail 28 (by omega); omega⟩
    have hqn : q < 28 := by have := nextV_bd r.tail 28 (by omega); omega
    have HQ := Lib.hid hq
    clear hq
    have HN : Hid (scaB (poolL.getD q 0) = true) := pool_scalar q hqn
    obtain ⟨y, hy⟩ : ∃ y, poolL.getD q 0 = y := ⟨_, rfl⟩
    rw [hy] at HN
    refine (next_at g r.tail 28 q _ HS2.out (by omega) (by omega) HQ).mono ?_
    rintro e w3 ⟨rfl, hs3, hg3⟩
    obtain ⟨_, _, hbe, hck⟩ := (HI2.out.grown hg3 (by intro b off e; cases e; omega)) q hqn
    cases hbe
    rw [hy, Nat.zero_add] at hck
    have HS3 := Lib.hid hs3
    have HG3 := Lib.hid (grownBy_trans HG2.out hg3)
    clear hs3 hg3 hy
    go_wp2
    go_ret
    exact ⟨y, _, rfl, HN.out, HS3.out, HG3.out⟩
  · obtain ⟨q, hq⟩ : ∃ q : Nat, nextV r.tail 28 = q := ⟨(nextV r.tail 28).toNat, by have := nextV_bd r.tail 28 (by omega); omega⟩
    have hqn : q < 28 := by have := nextV_bd r.tail 28 (by omega); omega
    have HQ := Lib.hid hq
    clear hq
    have HN : Hid (scaB (poolL.getD q 0) = true) := pool_scalar q hqn
    obtain ⟨y, hy⟩ : ∃ y, poolL.getD q 0 = y := ⟨_, rfl⟩
    rw [hy] at HN
    refine (next_at g r.tail 28 q _ HS2.out (by omega) (by omega) HQ).mono ?_
    rintro e w3 ⟨rfl, hs3, hg3⟩
    obtain ⟨_, _, hbe, hck⟩ := (HI2.out.grown hg3 (by intro b off e; cases e; omega)) q hqn
    cases hbe
    rw [hy, Nat.zero_add] at hck
    have HS3 := Lib.hid hs3
    have HG3 := Lib.hid (grownBy_trans HG2.out hg3)
    clear hs3 hg3 hy
    go_wp2
    go_ret
    exact ⟨y, _, rfl, HN.out, HS3.out, HG3.out⟩

/-- What 'Points' leaves: at most ten scalar values in a new slice. -/
def PointsPost (w : World) (e : Ending) (w' : World) : Prop :=
  ∃ (xs : List Int) (v : Value), e = .returned v ∧ xs.length ≤ 10 ∧ xs.all scaB = true ∧ Ints w' w.heap.size v xs ∧ Below w.heap.size w w'

set_option maxHeartbeats 1000000 in
theorem points_any (p : Option Addr) (cap : Nat) (zs : List Int) (w : World) (hin : IntsIn w p zs) (hl : zs.length ≤ 17592186043904) :
    Calls Tryz.prog 8 #[.slice p zs.length cap] w (PointsPost w) := by
  have HI := Lib.hid hin
  clear hin
  obtain ⟨v0, v1⟩ := nextV_bd zs 11 (by omega)
  obtain ⟨n, hn⟩ : ∃ n : Nat, nextV zs 11 = n := ⟨(nextV zs 11).toNat, by omega⟩
  have hn10 : n ≤ 10 := by omega
  have HN := Lib.hid hn
  clear v0 v1 hn
  go_enter Tryz.func8, Tryz.ntmps8
  go_wp2_with fail
  refine (from_any p cap zs _ HI.out hl).mono ?_
  rintro e w1 ⟨g, rfl, hg, hs1, hb1⟩
  have HS1 := Lib.hid hs1
  have HB1 := Lib.hid hb1
  clear hs1 hb1
  go_wp2_with fail
  refine (next_at g zs 11 n _ HS1.out (by omega) (by omega) HN).mono ?_
  rintro e w2 ⟨rfl, hs2, hg2⟩
  have hb2 : Below w.heap.size w w2 := HB1.out.grown hg2 HB1.out.size (by intro k e; cases e; exact hg)
  have HS2 := Lib.hid hs2
  have HB2 := Lib.hid hb2
  clear hs2 hb2 hg2
  go_wp2
  go_loopw [4, 5] (fun v m wr => ∃ k : Nat, ∃ xs : List Int, ∃ r : List Int, k ≤ 10 ∧ m = .int .i64 k ∧ xs.length + k ≤ 10 ∧ Hid (xs.all scaB = true) ∧ Hid (Src wr g r) ∧ Hid (Ints wr (g + 1) v xs) ∧ Hid (Below w.heap.size w wr)) (fun _ m _ => (intOf m).toNat)
  case atStart => exact ⟨n, [], zs.tail, hn10, rfl, by simp; omega, rfl, HS2, Ints.nil _ _, HB2⟩
  case round =>
    obtain ⟨k, xs, r, hk, rfl, hxk, ha, hs, hown, hbel⟩ := hrel
    by_cases h0 : 0 < k
    · go_wp2_with fail
      refine (point_any g r _ hs.out).mono ?_
      rintro e w3 ⟨c, r', rfl, hc, hs3, hg3⟩
      have hk3 := (Keeps.of_grown hg3).weak (Q := fun b => b = g) (fun b _ e => by injection e with e; exact e.symm)
      have hown3 := hk3.owns hown.out (fun b hb e => by have := World.ownsRow.lt hown.out b hb; omega)
      have HO3 := Lib.hid (Ints.alloc hown3 (.cells #[.int .i64 c] 3))
      have HC := Lib.hid hc
      have HS3 := Lib.hid hs3
      have HB3 := Lib.hid (hbel.out.trans (hk3.below hbel.out.size (fun b _ e => by omega)))
      have HSL := Lib.hid hs3.lt
      clear hc hs3 hg3 hown3 hk3
      go_wp2_with (at_builtin; refine wpList_append_one _ _ rfl rfl (g + 1) u4 xs (by rfl) (by exact HO3.out) _ 1 c (by rfl) (by simp [World.cell?_alloc_new]) (by omega) (by have := HSL.out; simp; omega) ?_; intro v' w4 hown4 hg4 hv4)
      have hA : (xs ++ [c]).all scaB = true := by rw [List.all_append, ha.out]; simpa using HC.out
      have hown3' : Ints (w3.alloc (.cells #[.int .i64 c] 3)) (g + 1) u4 xs := HO3.out
      have hB : Below w.heap.size w w4 := (HB3.out.alloc HB3.out.size _).grown hg4 (by have := HB3.out.size; simp; omega) (fun j hj => by have := (World.ownsRow.lt hown3' j hj).1; omega)
      have hS : Src w4 g r' := (HS3.out.alloc _).grown hg4 (fun j hj => by have := (World.ownsRow.lt hown3' j hj).1; omega)
      have HA := Lib.hid hA
      have HI := Lib.hid hown4
      have HB := Lib.hid hB
      have HS := Lib.hid hS
      clear hA hB hS hown4 hg4 hv4 hown3'
      go_wp2
      go_roundw
      case rel => exact ⟨k - 1, xs ++ [c], r', by omega, by go_num, by simp; omega, HA, HS, HI, HB⟩
      case measure => simp [intOf]; omega
    · obtain rfl : k = 0 := by omega
      have HO := Lib.hid (Ints.mono hown.out (B' := w.heap.size) (by omega))
      go_wp2
      go_ret
      exact ⟨xs, _, rfl, by omega, ha.out, HO.out, hbel.out⟩

end Go.Proofs.YtnmckcfaalakoaaGreatDoor

namespace Go.Proofs.YtnmckcfaalakoaaGreatDoor
open Go.RowKit
set_option linter.unusedVariables false

set_option maxRecDepth 100000 in
set_option maxHeartbeats 1000000 in
theorem clone_any (v : Value) (xs : List Int) (w : World) (hv : InV w v xs) :
    Calls Tryz.prog 58 #[v] w (GivesL xs w) := by
  obtain ⟨p, c, rfl, hin, hl⟩ := hv
  have HI := Lib.hid hin
  cases p with
  | none =>
    have hx : xs = [] := by
      cases xs with
      | nil => rfl
      | cons y r => obtain ⟨_, _, e, _⟩ := hin 0 (by simp); cases e
    subst hx
    clear hin
    have hcmp : ∀ W, (binOp .eql 22 (.slice none 0 c) (.slice none 0 0)).run Tryz.prog W = .ok (.bool true) W := fun W => Lib.run_eql_slice_nil (P := Tryz.prog) W 22 3 none 0 c 0 0 Tryz.underlying22
    go_enter Tryz.func58, Tryz.ntmps58
    go_wp2
    go_ret
    exact ⟨none, 0, 0, rfl, rfl, by omega, fun k hk => absurd hk (Nat.not_lt_zero _), Below.refl _ _⟩
  | some a =>
    have HE := Lib.hid (World.ownsRow_lit (base := w.heap.size) (e := 3) (size := 1) w #[] 0 (Nat.le_refl _) (by unfold maxLen; omega) rfl)
    have HB0 := Lib.hid ((Below.refl w.heap.size w).alloc (Nat.le_refl _) (.cells #[] 3))
    have HIa := Lib.hid (HI.out.below HB0.out)
    clear hin
    have hcmp : ∀ W, (binOp .eql 22 (.slice (some a) xs.length c) (.slice none 0 0)).run Tryz.prog W = .ok (.bool false) W := fun W => Lib.run_eql_slice_nil (P := Tryz.prog) W 22 3 (some a) xs.length c 0 0 Tryz.underlying22
    go_enter Tryz.func58, Tryz.ntmps58
    go_wp2_with (at_builtin; refine wpList_append_ints _ _ rfl rfl w.heap.size (.slice (some ⟨w.heap.size, 0, none⟩) 0 0) [] (by rfl) (by exact HE.out) (some a) xs.length c xs rfl (by rfl) (by exact HIa.out) (by simp; omega) (by simp) ?_; intro v1 w1 ho1 hg1)
    have hb1 := HB0.out.grown hg1 (by simp) (fun k e => by have e2 : some w.heap.size = some k := e; injection e2 with e2; omega)
    obtain ⟨p1, c1, rfl, hin1⟩ := ho1.inn
    have HI1 := Lib.hid hin1
    have HB1 := Lib.hid hb1
    have HL := Lib.hid hl
    obtain ⟨n, hn⟩ : ∃ n, ([] ++ xs).length = n := ⟨_, rfl⟩
    rw [hn]
    have HN := Lib.hid hn
    clear ho1 hg1 hin1 hb1 hn hl
    go_wp2
    go_ret
    have h1 := HN.out
    have h2 := HL.out
    simp at h1
    exact ⟨p1, n, c1, rfl, h1, by omega, HI1.out, HB1.out⟩

set_option maxHeartbeats 1000000 in
theorem seqOf_any (v : Value) (l : List Mp) (c : Int) (w : World) (hv : MpV w v l) (ha : ascI 0 1114111 (froms l) = true) :
    Calls Tryz.prog 45 #[v, .int .i64 c] w (GivesL (findM l c) w) := by
  obtain ⟨p, cp, rfl, hin, hn⟩ := hv
  have HI := Lib.hid hin
  have HA := Lib.hid ha
  clear hin ha
  cases hh : hasM l c with
  | false =>
    have HF : Hid (findM l c = []) := findM_nil hh
    have HH := Lib.hid hh
    clear hh
    go_enter Tryz.func45, Tryz.ntmps45
    go_wp2_with fail
    refine (findMp_any _ l c _ ⟨p, cp, rfl, HI.out, hn⟩ HA.out).mono ?_
    rintro e w1 ⟨i, rfl, hi, hf, hb⟩
    rw [HH.out]
    have HB := Lib.hid hb
    clear hb hf
    go_wp2
    go_ret
    rw [HF.out]
    exact ⟨none, 0, 0, rfl, rfl, by omega, fun k hk => absurd hk (Nat.not_lt_zero _), HB.out⟩
  | true =>
    have HH := Lib.hid hh
    clear hh
    go_enter Tryz.func45, Tryz.ntmps45
    go_wp2_with fail
    refine (findMp_any _ l c _ ⟨p, cp, rfl, HI.out, hn⟩ HA.out).mono ?_
    rintro e w1 ⟨i, rfl, hi, hf, hb⟩
    obtain ⟨hlt, hfr, hto⟩ := hf HH.out
    rw [HH.out]
    obtain ⟨g, off, u, rfl, hc1, hc2, hu⟩ := (HI.out.below hb) i hlt
    have HU := Lib.hid hu
    have HB := Lib.hid hb
    have HT := Lib.hid hto
    clear hb hc1 hfr hu hto
    go_wp2_with fail
    refine (clone_any u _ _ HU.out).mono ?_
    rintro e w2 ⟨p2, n2, c2, rfl, hl2, hn2, hin2, hb2⟩
    have HB2 := Lib.hid (HB.out.trans (hb2.mono HB.out.size))
    have HI2 := Lib.hid hin2
    have HL2 := Lib.hid hl2
    have HN2 := Lib.hid hn2
    clear hin2 hb2 hl2 hn2 hc2
    go_wp2
    go_ret
    rw [HT.out]
    exact ⟨p2, n2, c2, rfl, HL2.out, HN2.out, HI2.out, HB2.out⟩

theorem lowc_at (c : Int) (w : World) (h : 65 ≤ c ∧ c ≤ 90) : Calls Tryz.prog 44 #[.int .i64 c] w fun e w' => e = .returned (.int .i64 (c + 32)) ∧ w = w' := by
  have e1 : IntKind.i64.wrap (c - 65) = c - 65 := IntWalk.i64_in _ (by omega)
  have e2 : IntKind.i64.wrap (c - 65 + 97) = c + 32 := by rw [IntWalk.i64_in _ (by omega)]; omega
  have e3 : c - 65 + 97 = c + 32 := by omega
  go_enter Tryz.func44, Tryz.ntmps44
  go_wp2
  go_ret
  exact ⟨by simp [e3], rfl⟩

set_option maxHeartbeats 2000000 in
theorem tmaps_at (x : TV) (T : Tb) (c : Int) (xs : List Int) (w : World) (hx : TabV w x T) (ha : ascI 0 1114111 (froms T.map) = true) (hxs : Hid (mapsT T c = xs)) :
    Calls Tryz.prog 33 #[x.agg, .int .i64 c] w (GivesL xs w) := by
  have HE := Lib.hid (Env.new hx)
  have k := HE.out.at8
  have HA := Lib.hid ha
  obtain ⟨B, hB⟩ : ∃ B, uppB c = B := ⟨_, rfl⟩
  have hu := (upp_any c (w.alloc (.cells (tabCells x) 26)))
  rw [hB] at hu
  have HU := Lib.hid hu
  clear hx ha hu
  simp only [TV.agg]
  cases B with
  | true =>
    have hc := uppB_iff.1 hB
    have HX : Hid (xs = [c + 32]) := by unfold Hid; rw [← hxs.out, mapsT, if_pos hB]
    clear hB
    go_enter Tryz.func33, Tryz.ntmps33
    go_wp2_with fail
    refine HU.out.mono ?_
    rintro e w1 ⟨rfl, rfl⟩
    go_wp2_with fail
    refine (lowc_at c _ hc).mono ?_
    rintro e w2 ⟨rfl, rfl⟩
    go_wp2
    go_ret
    rw [HX.out]
    refine ⟨_, 1, 1, rfl, rfl, by omega, ?_, HE.out.bel.alloc (by simp) _⟩
    have := lit_ints (w.alloc (.cells (tabCells x) 26)) #[.int .i64 (c + 32)] [c + 32] 3 rfl
    simpa [tabCells] using this
  | false =>
    have HX : Hid (xs = findM T.map c) := by unfold Hid; rw [← hxs.out, mapsT, if_neg (by simp [hB])]
    clear hB
    go_enter Tryz.func33, Tryz.ntmps33
    go_wp2_with fail
    refine HU.out.mono ?_
    rintro e w1 ⟨rfl, rfl⟩
    go_wp2_with fail
    refine (seqOf_any x.a8 T.map c _ HE.out.tab.map HA.out).mono ?_
    rintro e w2 ⟨p2, n2, c2, rfl, hl2, hn2, hin2, hb2⟩
    have HB2 := Lib.hid (HE.out.step hb2)
    have HI2 := Lib.hid hin2
    have HL2 := Lib.hid hl2
    have HN2 := Lib.hid hn2
    clear hin2 hb2 hl2 hn2 k
    go_wp2
    go_ret
    rw [HX.out]
    exact ⟨p2, n2, c2, rfl, HL2.out, HN2.out, HI2.out, HB2.out.bel⟩

/-- What is mapped in tables that keep.Tables makes. -/
theorem Made.maps {T : Tb} (h : Made T) (c : Int) : (mapsT T c = [] ↔ staT T c ≠ 3) ∧ ∀ y ∈ mapsT T c, staT T y = 1 ∨ staT T y = 4 := by
  have hnone : ∀ a : Int, a ∉ poolL → val T.sta a = none := fun a ha => h.map.sp.none ha
  by_cases hu : uppB c = true
  · have hc := uppB_iff.1 hu
    have hp : c ∉ poolL := by
      intro hm
      have : ∀ a ∈ poolL, 90 < a := by decide +kernel
      have := this c hm
      omega
    have hp2 : c + 32 ∉ poolL := by
      intro hm
      have : ∀ a ∈ poolL, 122 < a := by decide +kernel
      have := this _ hm
      omega
    have e1 : staT T c = 3 := by
      unfold staT fixT
      rw [hnone c hp]
      have h1 : latB c = false := by
        cases hb : latB c with
        | false => rfl
        | true => have := latB_iff.1 hb; omega
      have h2 : sylB c = false := by
        cases hb : sylB c with
        | false => rfl
        | true => have := sylB_iff.1 hb; omega
      simp [h1, h2, hu, show c ≠ 46 by omega]
    have e2 : staT T (c + 32) = 1 := by
      unfold staT fixT
      rw [hnone _ hp2]
      have h1 : latB (c + 32) = true := latB_iff.2 (.inl (by omega))
      simp [h1]
    unfold mapsT
    rw [if_pos hu, e1]
    refine ⟨by simp, fun y hy => ?_⟩
    rw [List.mem_singleton] at hy
    subst hy
    exact .inl e2
  · unfold mapsT
    rw [if_neg hu]
    constructor
    · constructor
      · intro he h3
        unfold staT at h3
        cases hv : val T.sta c with
        | none =>
          rw [hv] at h3
          unfold fixT at h3
          simp only [Option.getD_none] at h3
          split at h3
          · omega
          · first | omega | (rw [if_neg hu] at h3; omega)
        | some v =>
          rw [hv] at h3
          simp only [Option.getD_some] at h3
          subst h3
          obtain ⟨s, hs, h1, h2, h4⟩ := val_mem hv
          obtain ⟨e5, _⟩ := h.map.sp.mem s hs
          have hb := h.map.back s hs h4
          have : s.1 = c := by omega
          rw [this] at hb
          have hm := findM_has hb
          rw [he] at hm
          have := (h.map.mem _ hm).2.2.facts.1
          simp at this
      · intro h3
        apply Classical.byContradiction
        intro hne
        have hb : hasM T.map c = true := by
          cases hb : hasM T.map c with
          | true => rfl
          | false => exact absurd (findM_nil hb) hne
        have hm := findM_has hb
        have := val_of_in h.map.sp.asc (h.map.mem _ hm).1
        simp only at this
        apply h3
        unfold staT
        rw [this]; rfl
    · intro y hy
      have hb : hasM T.map c = true := by
        cases hb : hasM T.map c with
        | true => rfl
        | false => rw [findM_nil hb] at hy; cases hy
      have hm := findM_has hb
      obtain ⟨_, f1, f2⟩ := (h.map.mem _ hm).2.2.facts.2.2 y hy
      left
      unfold staT
      rw [hnone y f2]; exact f1

end Go.Proofs.YtnmckcfaalakoaaGreatDoor
