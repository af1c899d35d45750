/-
  The contracts of keep.From, pool, point, Points.
-/
import Derived.Test.YtmnnpfohjffniaaPkG
import Derived.Test.YtmnnpfohjffniaaQAwake
set_option linter.unusedSimpArgs false
set_option linter.unusedVariables false
namespace Go.Proofs.Ytmnnpfohjffniaa
open Go.RowKit

/-- A new source. -/
def NewSrc (zs : List Int) (w : World) (e : Ending) (w' : World) : Prop :=
  ∃ g, e = .returned (.pointer (some ⟨g, 0, none⟩)) ∧ w.heap.size ≤ g ∧ Src w' g zs ∧ Below w.heap.size w w'

set_option maxHeartbeats 400000 in
theorem from_any (p : Option Addr) (cap : Nat) (zs : List Int) (w : World) (hin : IntsIn w p zs) (hl : zs.length ≤ 17592186043904) :
    Calls Try.prog 20 #[.slice p zs.length cap] w (NewSrc zs w) := by
  have HI := Lib.hid hin
  by_cases h0 : zs = []
  · subst h0
    clear hin
    go_enter Try.func20, Try.ntmps20
    go_wp2
    go_ret
    refine ⟨w.heap.size, rfl, Nat.le_refl _, ⟨[], 0, p, cap, rfl, Nat.le_refl _, by simp, ?_, ?_, ?_, HI.out.alloc _, fun h => absurd rfl h⟩, (Below.refl _ _).alloc (Nat.le_refl _) _⟩
    · simp
    · simp
    · simp
  · have hp : ∀ b off, p = some ⟨b, off, none⟩ → b < w.heap.size := by
      intro b off e
      obtain ⟨b', off', e', hc⟩ := hin 0 (List.length_pos_iff.2 h0)
      rw [e] at e'
      cases e'
      have := World.block_lt_of_cell? w _ hc
      simp only at this
      omega
    have HP := Lib.hid hp
    clear hin hp
    go_enter Try.func20, Try.ntmps20
    go_wp2
    go_ret
    refine ⟨w.heap.size, rfl, Nat.le_refl _, ⟨zs, 0, p, cap, rfl, Nat.zero_le _, hl, ?_, ?_, ?_, HI.out.alloc _, fun _ => HP.out⟩, (Below.refl _ _).alloc (Nat.le_refl _) _⟩
    · simp
    · simp
    · simp

def poolL : List Int := [173, 183, 769, 776, 803, 837, 885, 945, 946, 947, 1072, 1488, 1523, 1576, 1577, 1632, 1776, 2381, 7680, 7681, 7682, 7683, 7684, 8204, 8205, 12539, 19968, 128512]

theorem next_at (g : Nat) (r : List Int) (n v : Int) (w : World) (hs : Src w g r) (h0 : 1 ≤ n) (h1 : n ≤ 1073741824) (hv : Hid (nextV r n = v)) :
    Calls Try.prog 21 #[.pointer (some ⟨g, 0, none⟩), .int .i64 n] w (NextPost g v r.tail w) := hv.out ▸ next_any g r n w hs h0 h1

/-- What 'point' leaves: a scalar value. -/
def PointPost (g : Nat) (w : World) (e : Ending) (w' : World) : Prop :=
  ∃ (c : Int) (r : List Int), e = .returned (.int .i64 c) ∧ lenS c ≠ 0 ∧ Src w' g r ∧ w.grownBy w' (some g)

theorem pool_scalar : ∀ j, j < 28 → lenS (poolL.getD j 0) ≠ 0 := by decide +kernel
theorem few_scalar : ∀ j, j < 4 → lenS ([4352, 4449, 4520, 46].getD j 0) ≠ 0 := by decide +kernel
theorem lit_small : ∀ q (h : q < 12), ((#[97, 98, 109, 110, 111, 114, 48, 45, 120, 65, 90, 49] : Array UInt8)[q]).toNat ≤ 127 := by decide +kernel

/-- What 'Points' leaves: at most ten scalar values in a new slice. -/
def PointsPost (w : World) (e : Ending) (w' : World) : Prop :=
  ∃ (xs : List Int) (p : Option Addr) (cap : Nat), e = .returned (.slice p xs.length cap) ∧ xs.length ≤ 10 ∧ allS xs = true ∧ IntsIn w' p xs ∧ Below w.heap.size w w'

end Go.Proofs.Ytmnnpfohjffniaa
