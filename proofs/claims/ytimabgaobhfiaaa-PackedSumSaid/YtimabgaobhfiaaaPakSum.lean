/-
  The sum of bytes, and bit operations on unsigned numbers: plain mathematics.
-/
import Derived.Laws.BitsAllLaws
import Derived.Laws.BitsLemmas
namespace Go.Proofs.Ytimabgaobhfiaaa

/-- One byte more. -/
def sumStep (x : Int) (b : Int) : Int := (((x.toNat ^^^ b.toNat : Nat) : Int) * 16777619) % 4294967296

def sumL (x : Int) (l : List Int) : Int := l.foldl sumStep x

theorem sumStep_bd (x b : Int) : 0 ≤ sumStep x b ∧ sumStep x b < 4294967296 := by
  unfold sumStep; omega

theorem sumL_bd (l : List Int) (x : Int) (h0 : 0 ≤ x) (h1 : x < 4294967296) : 0 ≤ sumL x l ∧ sumL x l < 4294967296 := by
  induction l generalizing x with
  | nil => exact ⟨h0, h1⟩
  | cons b r ih => exact ih _ (sumStep_bd x b).1 (sumStep_bd x b).2

theorem sumL_append (x : Int) (a b : List Int) : sumL x (a ++ b) = sumL (sumL x a) b := by simp [sumL]
theorem sumL_snoc (x : Int) (a : List Int) (b : Int) : sumL x (a ++ [b]) = sumStep (sumL x a) b := by simp [sumL]

theorem mul_inj (a b : Int) (ha : 0 ≤ a) (ha1 : a < 4294967296) (hb : 0 ≤ b) (hb1 : b < 4294967296) (h : (a * 16777619) % 4294967296 = (b * 16777619) % 4294967296) : a = b := by
  have key : ∀ c : Int, 0 ≤ c → c < 4294967296 → ((c * 16777619) % 4294967296 * 899433627) % 4294967296 = c := by
    intro c hc hc1
    omega
  rw [← key a ha ha1, ← key b hb hb1, h]

theorem xor_lt (x b : Int) (h0 : 0 ≤ x) (h1 : x < 4294967296) (h2 : 0 ≤ b) (h3 : b < 256) : ((x.toNat ^^^ b.toNat : Nat) : Int) < 4294967296 := by
  have : x.toNat ^^^ b.toNat < 2 ^ 32 := Nat.xor_lt_two_pow (by omega) (by omega)
  omega

theorem xor_left_inj (a x y : Nat) (h : a ^^^ x = a ^^^ y) : x = y := by
  have h2 : a ^^^ (a ^^^ x) = a ^^^ (a ^^^ y) := by rw [h]
  rwa [← Nat.xor_assoc, ← Nat.xor_assoc, Nat.xor_self, Nat.zero_xor, Nat.zero_xor] at h2

theorem sumStep_left (x y b : Int) (hx : 0 ≤ x) (hx1 : x < 4294967296) (hy : 0 ≤ y) (hy1 : y < 4294967296) (hb : 0 ≤ b) (hb1 : b < 256) (h : sumStep x b = sumStep y b) : x = y := by
  have h2 := mul_inj _ _ (by omega) (xor_lt x b hx hx1 hb hb1) (by omega) (xor_lt y b hy hy1 hb hb1) h
  have h3 : x.toNat ^^^ b.toNat = y.toNat ^^^ b.toNat := by omega
  rw [Nat.xor_comm x.toNat, Nat.xor_comm y.toNat] at h3
  have := xor_left_inj _ _ _ h3
  omega

theorem sumStep_right (x b c : Int) (hx : 0 ≤ x) (hx1 : x < 4294967296) (hb : 0 ≤ b) (hb1 : b < 256) (hc : 0 ≤ c) (hc1 : c < 256) (h : sumStep x b = sumStep x c) : b = c := by
  have h2 := mul_inj _ _ (by omega) (xor_lt x b hx hx1 hb hb1) (by omega) (xor_lt x c hx hx1 hc hc1) h
  have h3 : x.toNat ^^^ b.toNat = x.toNat ^^^ c.toNat := by omega
  have := xor_left_inj _ _ _ h3
  omega

theorem sumL_left (l : List Int) (x y : Int) (hx : 0 ≤ x) (hx1 : x < 4294967296) (hy : 0 ≤ y) (hy1 : y < 4294967296) (hl : ∀ b ∈ l, 0 ≤ b ∧ b < 256) (h : sumL x l = sumL y l) : x = y := by
  induction l generalizing x y with
  | nil => exact h
  | cons b r ih =>
    have hb := hl b (by simp)
    have := ih _ _ (sumStep_bd x b).1 (sumStep_bd x b).2 (sumStep_bd y b).1 (sumStep_bd y b).2 (fun c hc => hl c (by simp [hc])) h
    exact sumStep_left x y b hx hx1 hy hy1 hb.1 hb.2 this

/-- The sum changes if one byte is changed. -/
theorem sum_changed (a r : List Int) (b c x : Int) (hx : 0 ≤ x) (hx1 : x < 4294967296) (hb : 0 ≤ b) (hb1 : b < 256) (hc : 0 ≤ c) (hc1 : c < 256) (hr : ∀ y ∈ r, 0 ≤ y ∧ y < 256) :
    sumL x (a ++ b :: r) = sumL x (a ++ c :: r) ↔ b = c := by
  constructor
  · intro h
    rw [sumL_append, sumL_append] at h
    have ha := sumL_bd a x hx hx1
    have h2 := sumL_left r _ _ (sumStep_bd _ b).1 (sumStep_bd _ b).2 (sumStep_bd _ c).1 (sumStep_bd _ c).2 hr h
    exact sumStep_right _ b c ha.1 ha.2 hb hb1 hc hc1 h2
  · rintro rfl; rfl

/-- The model's words: '(x ^ uint32(b)) * 0x01000193'. -/
theorem u32_sum (x b : Int) (h0 : 0 ≤ x) (h1 : x < 4294967296) (h2 : 0 ≤ b) (h3 : b < 256) : IntKind.u32.wrap (bits .xor .u32 x b * 16777619) = sumStep x b := by
  rw [u32_xor x b h0 h1 h2 (by omega), IntKind.wrap_u32]
  rfl

/-- '|' of a number below 2^m and a multiple of 2^m. -/
theorem u64_or_join (u x : Int) (m : Nat) (h0 : 0 ≤ u) (h1 : u < 2 ^ m) (h2 : 0 ≤ x) (h3 : x < 18446744073709551616) (h4 : x % 2 ^ m = 0) (h5 : u < 18446744073709551616) : bits .or .u64 u x = u + x := by
  rw [u64_or u x h0 h5 h2 h3, Nat.or_comm]
  have e : x.toNat % 2 ^ m = 0 := by
    have hx : ((x.toNat : Nat) : Int) = x := Int.toNat_of_nonneg h2
    have : (((x.toNat % 2 ^ m : Nat)) : Int) = 0 := by
      rw [Int.natCast_emod, hx, Int.natCast_pow]; exact h4
    omega
  have e2 : u.toNat < 2 ^ m := by
    have hu : ((u.toNat : Nat) : Int) = u := Int.toNat_of_nonneg h0
    have : ((u.toNat : Nat) : Int) < ((2 ^ m : Nat) : Int) := by rw [hu, Int.natCast_pow]; exact h1
    omega
  rw [nat_join m x.toNat u.toNat e e2]
  omega

end Go.Proofs.Ytimabgaobhfiaaa
