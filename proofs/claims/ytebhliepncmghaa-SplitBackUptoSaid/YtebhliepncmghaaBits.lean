/-
  Bit operations on int as sums and remainders. No program is imported.
-/
import Derived.WalkKit
import Derived.Laws.BitsLemmas
namespace Go.Proofs.Ytebhliepncmghaa

theorem wraps_i64 (n : Int) (h₀ : 0 ≤ n) (h₁ : n < 2 ^ 63) : IntKind.i64.wrap n = n := by rw [IntKind.wrap_i64]; omega
theorem i64_and63 (x : Int) (h₀ : 0 ≤ x) (h₁ : x < 2 ^ 63) : bits .and .i64 x 63 = x % 64 := bits_mask .i64 63 (by decide) wraps_i64 6 (by decide) x h₀ h₁
theorem i64_or128 (y : Int) (h₀ : 0 ≤ y) (h₁ : y < 128) : bits .or .i64 128 y = 128 + y :=
  bits_join .i64 63 (by decide) wraps_i64 7 128 y (by decide) (by decide) (by decide) h₀ h₁ (by omega)
theorem i64_or192 (y : Int) (h₀ : 0 ≤ y) (h₁ : y < 64) : bits .or .i64 192 y = 192 + y :=
  bits_join .i64 63 (by decide) wraps_i64 6 192 y (by decide) (by decide) (by decide) h₀ h₁ (by omega)
theorem i64_or224 (y : Int) (h₀ : 0 ≤ y) (h₁ : y < 32) : bits .or .i64 224 y = 224 + y :=
  bits_join .i64 63 (by decide) wraps_i64 5 224 y (by decide) (by decide) (by decide) h₀ h₁ (by omega)
theorem i64_or240 (y : Int) (h₀ : 0 ≤ y) (h₁ : y < 16) : bits .or .i64 240 y = 240 + y :=
  bits_join .i64 63 (by decide) wraps_i64 4 240 y (by decide) (by decide) (by decide) h₀ h₁ (by omega)
theorem i64_or6 (x y : Int) (hx₀ : 0 ≤ x) (hx : x % 64 = 0) (hx₁ : x < 2 ^ 62) (h₀ : 0 ≤ y) (h₁ : y < 64) : bits .or .i64 x y = x + y :=
  bits_join .i64 63 (by decide) wraps_i64 6 x y (by omega) (by omega) (by omega) h₀ (by omega) (by omega)

end Go.Proofs.Ytebhliepncmghaa
