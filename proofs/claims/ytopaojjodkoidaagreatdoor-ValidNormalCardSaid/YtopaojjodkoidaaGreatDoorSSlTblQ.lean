/-
  The contracts of keep.point, keep.Points; of table.Maps.
  slices.Clone, table.sequenceOf, table.Maps; what well-formed tables map.
-/
import Derived.Test.YtopaojjodkoidaaGreatDoorSSlTblJ
set_option linter.unusedSimpArgs false
set_option linter.unusedVariables false
namespace Go.Proofs.YtopaojjodkoidaaGreatDoor
open Go.RowKit
set_option linter.unusedVariables false

/-- What 'point' leaves: a scalar value. -/
def PointPost (g : Nat) (w : World) (e : Ending) (w' : World) : Prop :=
  ∃ (c : Int) (r : List Int), e = .returned (.int .i64 c) ∧ scaB c = true ∧ Src w' g r ∧ w.grownBy w' (some g)

theorem pool_scalar : ∀ j, j < 28 → scaB (poolL.getD j 0) = true := by decide +kernel
theorem few_scalar : ∀ j, j < 4 → scaB ([4352, 4449, 4520, 46].getD j 0) = true := by decide +kernel
theorem lit_small : ∀ q (h : q < 12), ((#[97, 98, 109, 110, 111, 114, 48, 45, 120, 65, 90, 49] : Array UInt8)[q]).toNat ≤ 127 := by decide +kernel

set_option maxHeartbeats 1000000 in
theorem point_any (g : Nat) (r : List Int) (w : World) (hs : Src w g r) :
    Calls Tryz.prog 33 #[.pointer (some ⟨g, 0, none⟩)] w (PointPost g w) := by
  have HS := Lib.hid hs
  have hg : g < w.heap.size := by obtain ⟨_, _, _, _, _, _, _, h4, _⟩ := hs; exact World.block_lt_of_cell? w _ h4
  clear hs
  obtain ⟨v0, v1⟩ := nextV_bd r 8 (by omega)
  have hv : nextV r 8 = 0 ∨ nextV r 8 = 1 ∨ nextV r 8 = 2 ∨ nextV r 8 = 3 ∨ nextV r 8 = 4 ∨ nextV r 8 = 5 ∨ nextV r 8 = 6 ∨ nextV r 8 = 7 := by omega
  clear v0 v1
  rcases hv with hv | hv | hv | hv | hv | hv | hv | hv
  all_goals
    have HV := Lib.hid hv
    clear hv
    go_enter Tryz.func33, Tryz.ntmps33
    go_wp2_with fail
    refine (pool_any _).mono ?_
    rintro e w1 ⟨rfl, hi1, hz1, hb1⟩
    have HI1 := Lib.hid hi1
    have HB1 := Lib.hid hb1
    clear hi1 hb1
    go_wp2_with fail
    refine (next_at g r 8 _ _ (HS.out.below HB1.out) (by omega) (by omega) HV).mono ?_
    rintro e w2 ⟨rfl, hs2, hg2⟩
    have HS2 := Lib.hid hs2
    have HG2 := Lib.hid (grownBy_trans (below_grownBy HB1.out _) hg2)
    have HI2 := Lib.hid (HI1.out.grown hg2 (by intro b off e; cases e; omega))
    clear hs2 hg2 HI1 HB1
    go_wp2_with fail
  · obtain ⟨q, hq⟩ : ∃ q : Nat, nextV r.tail 12 = q := ⟨(nextV r.tail 12).toNat, by have := nextV_bd r.tail 12 (by omega); omega⟩
    have hq12 : q < 12 := by have := nextV_bd r.tail 12 (by omega); omega
    have HQ := Lib.hid hq
    have hsm := lit_small q hq12
    obtain ⟨y, hy⟩ : ∃ y : Int, (((ByteArray.mk #[97, 98, 109, 110, 111, 114, 48, 45, 120, 65, 90, 49])[q]'(hq12)).toNat : Int) = y := ⟨_, rfl⟩
    have hy0 : 0 ≤ y ∧ y ≤ 127 := by rw [← hy]; exact ⟨by omega, by exact_mod_cast hsm⟩
    have HN : Hid (scaB y = true) := by unfold Hid scaB; simp; omega
    obtain ⟨hy0, hy1⟩ := hy0
    clear hq hsm
    refine (next_at g r.tail 12 q _ HS2.out (by omega) (by omega) HQ).mono ?_
    rintro e w3 ⟨rfl, hs3, hg3⟩
    have HS3 := Lib.hid hs3
    have HG3 := Lib.hid (grownBy_trans HG2.out hg3)
    clear hs3 hg3
    go_wp2
    go_ret
    exact ⟨y, _, rfl, HN.out, HS3.out, HG3.out⟩
  · obtain ⟨q, hq⟩ : ∃ q : Nat, nextV r.tail 12 = q := ⟨(nextV r.tail 12).toNat, by have := nextV_bd r.tail 12 (by omega); omega⟩
    have hq12 : q < 12 := by have := nextV_bd r.tail 12 (by omega); omega
    have HQ := Lib.hid hq
    have hsm := lit_small q hq12
    obtain ⟨y, hy⟩ : ∃ y : Int, (((ByteArray.mk #[97, 98, 109, 110, 111, 114, 48, 45, 120, 65, 90, 49])[q]'(hq12)).toNat : Int) = y := ⟨_, rfl⟩
    have hy0 : 0 ≤ y ∧ y ≤ 127 := by rw [← hy]; exact ⟨by omega, by exact_mod_cast hsm⟩
    have HN : Hid (scaB y = true) := by unfold Hid scaB; simp; omega
    obtain ⟨hy0, hy1⟩ := hy0
    clear hq hsm
    refine (next_at g r.tail 12 q _ HS2.out (by omega) (by omega) HQ).mono ?_
    rintro e w3 ⟨rfl, hs3, hg3⟩
    have HS3 := Lib.hid hs3
    have HG3 := Lib.hid (grownBy_trans HG2.out hg3)
    clear hs3 hg3
    go_wp2
    go_ret
    exact ⟨y, _, rfl, HN.out, HS3.out, HG3.out⟩
  · obtain ⟨q, hq⟩ : ∃ q : Nat, nextV r.tail 12 = q := ⟨(nextV r.tail 12).toNat, by have := nextV_bd r.tail 12 (by omega); omega⟩
    have hq12 : q < 12 := by have := nextV_bd r.tail 12 (by omega); omega
    have HQ := Lib.hid hq
    have hsm := lit_small q hq12
    obtain ⟨y, hy⟩ : ∃ y : Int, (((ByteArray.mk #[97, 98, 109, 110, 111, 114, 48, 45, 120, 65, 90, 49])[q]'(hq12)).toNat : Int) = y := ⟨_, rfl⟩
    have hy0 : 0 ≤ y ∧ y ≤ 127 := by rw [← hy]; exact ⟨by omega, by exact_mod_cast hsm⟩
    have HN : Hid (scaB y = true) := by unfold Hid scaB; simp; omega
    obtain ⟨hy0, hy1⟩ := hy0
    clear hq hsm
    refine (next_at g r.tail 12 q _ HS2.out (by omega) (by omega) HQ).mono ?_
    rintro e w3 ⟨rfl, hs3, hg3⟩
    have HS3 := Lib.hid hs3
    have HG3 := Lib.hid (grownBy_trans HG2.out hg3)
    clear hs3 hg3
    go_wp2
    go_ret
    exact ⟨y, _, rfl, HN.out, HS3.out, HG3.out⟩
  · obtain ⟨q, hq⟩ : ∃ q : Int, nextV r.tail 60 = q := ⟨_, rfl⟩
    obtain ⟨hq0, hq1⟩ := nextV_bd r.tail 60 (by omega)
    rw [hq] at hq0 hq1
    have HQ := Lib.hid hq
    clear hq
    have HN : Hid (scaB (44032 + q) = true) := by unfold Hid scaB; simp; omega
    refine (next_at g r.tail 60 q _ HS2.out (by omega) (by omega) HQ).mono ?_
    rintro e w3 ⟨rfl, hs3, hg3⟩
    have HS3 := Lib.hid hs3
    have HG3 := Lib.hid (grownBy_trans HG2.out hg3)
    clear hs3 hg3
    go_wp2
    go_ret
    exact ⟨_, _, rfl, HN.out, HS3.out, HG3.out⟩
  · obtain ⟨q, hq⟩ : ∃ q : Nat, nextV r.tail 4 = q := ⟨(nextV r.tail 4).toNat, by have := nextV_bd r.tail 4 (by omega); omega⟩
    have hqn : q < 4 := by have := nextV_bd r.tail 4 (by omega); omega
    have HQ := Lib.hid hq
    clear hq
    have HN : Hid (scaB (([4352, 4449, 4520, 46] : List Int).getD q 0) = true) := few_scalar q hqn
    obtain ⟨y, hy⟩ : ∃ y, ([4352, 4449, 4520, 46] : List Int).getD q 0 = y := ⟨_, rfl⟩
    rw [hy] at HN
    refine (next_at g r.tail 4 q _ (HS2.out.alloc _) (by omega) (by omega) HQ).mono ?_
    rintro e w3 ⟨rfl, hs3, hg3⟩
    obtain ⟨_, _, hbe, hck⟩ := ((lit_ints w2 #[.int .i64 4352, .int .i64 4449, .int .i64 4520, .int .i64 46] [4352, 4449, 4520, 46] _ rfl).grown hg3 (by intro b off e; cases e; have := HG2.out.size; omega)) q hqn
    cases hbe
    rw [hy, Nat.zero_add] at hck
    have HS3 := Lib.hid hs3
    have HG3 := Lib.hid (grownBy_trans (grownBy_trans HG2.out (World.grownBy_alloc _ _ _)) hg3)
    clear hs3 hg3 hy
    go_wp2
    go_ret
    exact ⟨y, _, rfl, HN.out, HS3.out, HG3.out⟩
  · obtain ⟨q, hq⟩ : ∃ q : Nat, nextV r.tail 28 = q := ⟨(nextV r.tail 28).toNat, by have := nextV_bd r.tail 28 (by omega); omega⟩
    have hqn : q < 28 := by have := nextV_bd r.tail 28 (by omega); omega
    have HQ := Lib.hid hq
    clear hq
    have HN : Hid (scaB (poolL.getD q 0) = true) := pool_scalar q hqn
    obtain ⟨y, hy⟩ : ∃ y, poolL.getD q 0 = y := ⟨_, rfl⟩
    rw [hy] at HN
    refine (next_at g r.tail 28 q _ HS2.out (by omega) (by omega) HQ).mono ?_
    rintro e w3 ⟨rfl, hs3, hg3⟩
    obtain ⟨_, _, hbe, hck⟩ := (HI2.out.grown hg3 (by intro b off e; cases e; omega)) q hqn
    cases hbe
    rw [hy, Nat.zero_add] at hck
    have HS3 := Lib.hid hs3
    have HG3 := Lib.hid (grownBy_trans HG2.out hg3)
    clear hs3 hg3 hy
    go_wp2
    go_ret
    exact ⟨y, _, rfl, HN.out, HS3.out, HG3.out⟩
  · obtain ⟨q, hq⟩ : ∃ q : Nat, nextV r.tail 28 = q := ⟨(nextV r.tail 28).toNat, by have := nextV_bd r.tail 28 (by omega); omega⟩
    have hqn : q < 28 := by have := nextV_bd r.tail 28 (by omega); omega
    have HQ := Lib.hid hq
    clear hq
    have HN : Hid (scaB (poolL.getD q 0) = true) := pool_scalar q hqn
    obtain ⟨y, hy⟩ : ∃ y, poolL.getD q 0 = y := ⟨_, rfl⟩
    rw [hy] at HN
    refine (next_at g r.tail 28 q _ HS2.out (by omega) (by omega) HQ).mono ?_
    rintro e w3 ⟨rfl, hs3, hg3⟩
    obtain ⟨_, _, hbe, hck⟩ := (HI2.out.grown hg3 (by intro b off e; cases e; omega)) q hqn
    cases hbe
    rw [hy, Nat.zero_add] at hck
    have HS3 := Lib.hid hs3
    have HG3 := Lib.hid (grownBy_trans HG2.out hg3)
    clear hs3 hg3 hy
    go_wp2
    go_ret
    exact ⟨y, _, rfl, HN.out, HS3.out, HG3.out⟩
  · obtain ⟨q, hq⟩ : ∃ q : Nat, nextV r.tail 28 = q := ⟨(nextV r.tail 28).toNat, by have := nextV_bd r.tail 28 (by omega); omega⟩
    have hqn : q < 28 := by have := nextV_bd r.tail 28 (by omega); omega
    have HQ := Lib.hid hq
    clear hq
    have HN : Hid (scaB (poolL.getD q 0) = true) := pool_scalar q hqn
    obtain ⟨y, hy⟩ : ∃ y, poolL.getD q 0 = y := ⟨_, rfl⟩
    rw [hy] at HN
    refine (next_at g r.tail 28 q _ HS2.out (by omega) (by omega) HQ).mono ?_
    rintro e w3 ⟨rfl, hs3, hg3⟩
    obtain ⟨_, _, hbe, hck⟩ := (HI2.out.grown hg3 (by intro b off e; cases e; omega)) q hqn
    cases hbe
    rw [hy, Nat.zero_add] at hck
    have HS3 := Lib.hid hs3
    have HG3 := Lib.hid (grownBy_trans HG2.out hg3)
    clear hs3 hg3 hy
    go_wp2
    go_ret
    exact ⟨y, _, rfl, HN.out, HS3.out, HG3.out⟩

/-- What 'Points' leaves: at most ten scalar values in a new slice. -/
def PointsPost (w : World) (e : Ending) (w' : World) : Prop :=
  ∃ (xs : List Int) (v : Value), e = .returned v ∧ xs.length ≤ 10 ∧ xs.all scaB = true ∧ Ints w' w.heap.size v xs ∧ Below w.heap.size w w'

set_option maxHeartbeats 1000000 in
theorem points_any (p : Option Addr) (cap : Nat) (zs : List Int) (w : World) (hin : IntsIn w p zs) (hl : zs.length ≤ 17592186043904) :
    Calls Tryz.prog 11 #[.slice p zs.length cap] w (PointsPost w) := by
  have HI := Lib.hid hin
  clear hin
  obtain ⟨v0, v1⟩ := nextV_bd zs 11 (by omega)
  obtain ⟨n, hn⟩ : ∃ n : Nat, nextV zs 11 = n := ⟨(nextV zs 11).toNat, by omega⟩
  have hn10 : n ≤ 10 := by omega
  have HN := Lib.hid hn
  clear v0 v1 hn
  go_enter Tryz.func11, Tryz.ntmps11
  go_wp2_with fail
  refine (from_any p cap zs _ HI.out hl).mono ?_
  rintro e w1 ⟨g, rfl, hg, hs1, hb1⟩
  have HS1 := Lib.hid hs1
  have HB1 := Lib.hid hb1
  clear hs1 hb1
  go_wp2_with fail
  refine (next_at g zs 11 n _ HS1.out (by omega) (by omega) HN).mono ?_
  rintro e w2 ⟨rfl, hs2, hg2⟩
  have hb2 : Below w.heap.size w w2 := HB1.out.grown hg2 HB1.out.size (by intro k e; cases e; exact hg)
  have HS2 := Lib.hid hs2
  have HB2 := Lib.hid hb2
  clear hs2 hb2 hg2
  go_wp2
  go_loopw [4, 5] (fun v m wr => ∃ k : Nat, ∃ xs : List Int, ∃ r : List Int, k ≤ 10 ∧ m = .int .i64 k ∧ xs.length + k ≤ 10 ∧ Hid (xs.all scaB = true) ∧ Hid (Src wr g r) ∧ Hid (Ints wr (g + 1) v xs) ∧ Hid (Below w.heap.size w wr)) (fun _ m _ => (intOf m).toNat)
  case atStart => exact ⟨n, [], zs.tail, hn10, rfl, by simp; omega, rfl, HS2, Ints.nil _ _, HB2⟩
  case round =>
    obtain ⟨k, xs, r, hk, rfl, hxk, ha, hs, hown, hbel⟩ := hrel
    by_cases h0 : 0 < k
    · go_wp2_with fail
      refine (point_any g r _ hs.out).mono ?_
      rintro e w3 ⟨c, r', rfl, hc, hs3, hg3⟩
      have hk3 := (Keeps.of_grown hg3).weak (Q := fun b => b = g) (fun b _ e => by injection e with e; exact e.symm)
      have hown3 := hk3.owns hown.out (fun b hb e => by have := World.ownsRow.lt hown.out b hb; omega)
      have HO3 := Lib.hid (Ints.alloc hown3 (.cells #[.int .i64 c] 3))
      have HC := Lib.hid hc
      have HS3 := Lib.hid hs3
      have HB3 := Lib.hid (hbel.out.trans (hk3.below hbel.out.size (fun b _ e => by omega)))
      have HSL := Lib.hid hs3.lt
      clear hc hs3 hg3 hown3 hk3
      go_wp2_with (at_builtin; refine wpList_append_one _ _ rfl rfl (g + 1) u4 xs (by rfl) (by exact HO3.out) _ 1 c (by rfl) (by simp [World.cell?_alloc_new]) (by omega) (by have := HSL.out; simp; omega) ?_; intro v' w4 hown4 hg4 hv4)
      have hA : (xs ++ [c]).all scaB = true := by rw [List.all_append, ha.out]; simpa using HC.out
      have hown3' : Ints (w3.alloc (.cells #[.int .i64 c] 3)) (g + 1) u4 xs := HO3.out
      have hB : Below w.heap.size w w4 := (HB3.out.alloc HB3.out.size _).grown hg4 (by have := HB3.out.size; simp; omega) (fun j hj => by have := (World.ownsRow.lt hown3' j hj).1; omega)
      have hS : Src w4 g r' := (HS3.out.alloc _).grown hg4 (fun j hj => by have := (World.ownsRow.lt hown3' j hj).1; omega)
      have HA := Lib.hid hA
      have HI := Lib.hid hown4
      have HB := Lib.hid hB
      have HS := Lib.hid hS
      clear hA hB hS hown4 hg4 hv4 hown3'
      go_wp2
      go_roundw
      case rel => exact ⟨k - 1, xs ++ [c], r', by omega, by go_num, by simp; omega, HA, HS, HI, HB⟩
      case measure => simp [intOf]; omega
    · obtain rfl : k = 0 := by omega
      have HO := Lib.hid (Ints.mono hown.out (B' := w.heap.size) (by omega))
      go_wp2
      go_ret
      exact ⟨xs, _, rfl, by omega, ha.out, HO.out, hbel.out⟩

end Go.Proofs.YtopaojjodkoidaaGreatDoor

namespace Go.Proofs.YtopaojjodkoidaaGreatDoor
open Go.RowKit
set_option linter.unusedVariables false

/-- What is mapped in tables that keep.Tables makes. -/
theorem Made.maps {T : Tb} (h : Made T) (c : Int) : (mapsT T c = [] ↔ staT T c ≠ 3) ∧ ∀ y ∈ mapsT T c, staT T y = 1 ∨ staT T y = 4 := by
  have hnone : ∀ a : Int, a ∉ poolL → val T.sta a = none := fun a ha => h.map.sp.none ha
  by_cases hu : uppB c = true
  · have hc := uppB_iff.1 hu
    have hp : c ∉ poolL := by
      intro hm
      have : ∀ a ∈ poolL, 90 < a := by decide +kernel
      have := this c hm
      omega
    have hp2 : c + 32 ∉ poolL := by
      intro hm
      have : ∀ a ∈ poolL, 122 < a := by decide +kernel
      have := this _ hm
      omega
    have e1 : staT T c = 3 := by
      unfold staT fixT
      rw [hnone c hp]
      have h1 : latB c = false := by
        cases hb : latB c with
        | false => rfl
        | true => have := latB_iff.1 hb; omega
      have h2 : sylB c = false := by
        cases hb : sylB c with
        | false => rfl
        | true => have := sylB_iff.1 hb; omega
      simp [h1, h2, hu, show c ≠ 46 by omega]
    have e2 : staT T (c + 32) = 1 := by
      unfold staT fixT
      rw [hnone _ hp2]
      have h1 : latB (c + 32) = true := latB_iff.2 (.inl (by omega))
      simp [h1]
    unfold mapsT
    rw [if_pos hu, e1]
    refine ⟨by simp, fun y hy => ?_⟩
    rw [List.mem_singleton] at hy
    subst hy
    exact .inl e2
  · unfold mapsT
    rw [if_neg hu]
    constructor
    · constructor
      · intro he h3
        unfold staT at h3
        cases hv : val T.sta c with
        | none =>
          rw [hv] at h3
          unfold fixT at h3
          simp only [Option.getD_none] at h3
          split at h3
          · omega
          · first | omega | (rw [if_neg hu] at h3; omega)
        | some v =>
          rw [hv] at h3
          simp only [Option.getD_some] at h3
          subst h3
          obtain ⟨s, hs, h1, h2, h4⟩ := val_mem hv
          obtain ⟨e5, _⟩ := h.map.sp.mem s hs
          have hb := h.map.back s hs h4
          have : s.1 = c := by omega
          rw [this] at hb
          have hm := findM_has hb
          rw [he] at hm
          have := (h.map.mem _ hm).2.2.facts.1
          simp at this
      · intro h3
        apply Classical.byContradiction
        intro hne
        have hb : hasM T.map c = true := by
          cases hb : hasM T.map c with
          | true => rfl
          | false => exact absurd (findM_nil hb) hne
        have hm := findM_has hb
        have := val_of_in h.map.sp.asc (h.map.mem _ hm).1
        simp only at this
        apply h3
        unfold staT
        rw [this]; rfl
    · intro y hy
      have hb : hasM T.map c = true := by
        cases hb : hasM T.map c with
        | true => rfl
        | false => rw [findM_nil hb] at hy; cases hy
      have hm := findM_has hb
      obtain ⟨_, f1, f2⟩ := (h.map.mem _ hm).2.2.facts.2.2 y hy
      left
      unfold staT
      rw [hnone y f2]; exact f1

end Go.Proofs.YtopaojjodkoidaaGreatDoor
