/-
  packed: unsigned, signed, isTick; the reference moderate.
-/
import Derived.Test.YtimabgaobhfiaaaOwn
import Derived.Test.YtimabgaobhfiaaaPakSpec2
import Derived.Lib.Zigzag
import Derived.PlainAid
namespace Go.Proofs.Ytimabgaobhfiaaa
open Go.RowKit

/-- A number of the type int. -/
def IsI (v : Int) : Prop := -9223372036854775808 ≤ v ∧ v ≤ 9223372036854775807
/-- A number of the type uint64. -/
def IsU (u : Int) : Prop := u < 18446744073709551616

theorem zz_words_pos (v : Int) (h0 : 0 ≤ v) (h : IsI v) : IntKind.u64.wrap (IntKind.u64.wrap v * 2) = zz v := by
  obtain ⟨_, h2⟩ := h
  rw [IntKind.wrap_u64, IntKind.wrap_u64]
  unfold zz
  omega

theorem zz_words_neg (v : Int) (h0 : v < 0) (h : IsI v) : bits .xor .u64 IntKind.u64.max (IntKind.u64.wrap (IntKind.u64.wrap v * 2)) = zz v := by
  rw [Lib.zigzag_neg h.1 h0]
  unfold Lib.zigzag zz
  rw [if_neg (by omega), if_neg (by omega)]
  omega

theorem ret_u64 {a b : Int} (h : a = b) : Ending.returned (.int .u64 a) = .returned (.int .u64 b) := by rw [h]
theorem ret_i64' {a b : Int} (h : a = b) : Ending.returned (.int .i64 a) = .returned (.int .i64 b) := by rw [h]
theorem ret_bool {a b : Bool} (h : a = b) : Ending.returned (.bool a) = .returned (.bool b) := by rw [h]

set_option maxHeartbeats 400000 in
theorem unsigned_any (v : Int) (w : World) (h : IsI v) :
    Calls Try.prog 40 #[.int .i64 v] w fun e w' => e = .returned (.int .u64 (zz v)) ∧ w = w' := by
  by_cases h0 : 0 ≤ v
  · go_enter Try.func40, Try.ntmps40
    go_wp2
    go_ret
    exact ⟨ret_u64 (zz_words_pos v h0 h), rfl⟩
  · have h1 : v < 0 := by omega
    have hs : IntKind.u64.signed = false := rfl
    go_enter Try.func40, Try.ntmps40
    go_wp2
    go_ret
    exact ⟨ret_u64 (zz_words_neg v h1 h), rfl⟩

theorem unsigned_at (v u : Int) (w : World) (h : IsI v) (hu : Hid (zz v = u)) :
    Calls Try.prog 40 #[.int .i64 v] w fun e w' => e = .returned (.int .u64 u) ∧ w = w' := hu.out ▸ unsigned_any v w h

/-- 'int(u >> 1)', and its complement. -/
theorem unzz_words_even (u : Int) (h0 : 0 ≤ u) (h1 : IsU u) (h : u % 2 = 0) : wrap64 (u / 2) = unzz u := by
  unfold IsU at h1
  rw [IntWalk.wrap64_in _ ⟨by omega, by omega⟩]
  unfold unzz; rw [if_pos h]

theorem unzz_words_odd (u : Int) (h0 : 0 ≤ u) (h1 : IsU u) (h : u % 2 ≠ 0) : bits .xor .i64 (-1) (wrap64 (u / 2)) = unzz u := by
  unfold IsU at h1
  rw [IntWalk.wrap64_in _ ⟨by omega, by omega⟩]
  have := Lib.i64_not (u / 2).toNat (by omega)
  rw [show (((u / 2).toNat : Nat) : Int) = u / 2 by omega] at this
  rw [this]
  unfold unzz; rw [if_neg h]

theorem u_and1 (u : Int) (h0 : 0 ≤ u) (h1 : IsU u) : bits .and .u64 u 1 = u % 2 := Lib.u64_and1 u h0 h1

theorem odd_test (u : Int) (h0 : 0 ≤ u) (h1 : IsU u) (h : u % 2 ≠ 0) : (bits .and .u64 u 1 == 1) = true := by
  rw [u_and1 u h0 h1]; simp; omega
theorem even_test (u : Int) (h0 : 0 ≤ u) (h1 : IsU u) (h : u % 2 = 0) : (bits .and .u64 u 1 == 1) = false := by
  rw [u_and1 u h0 h1, h]; rfl

set_option maxHeartbeats 400000 in
theorem signed_any (u : Int) (w : World) (h0 : 0 ≤ u) (h1 : IsU u) :
    Calls Try.prog 36 #[.int .u64 u] w fun e w' => e = .returned (.int .i64 (unzz u)) ∧ w = w' := by
  by_cases h : u % 2 = 0
  · have ht := even_test u h0 h1 h
    have H := Lib.hid h
    clear h
    go_enter Try.func36, Try.ntmps36
    go_wp2
    go_ret
    exact ⟨ret_i64' (unzz_words_even u h0 h1 H.out), rfl⟩
  · have ht := odd_test u h0 h1 h
    have hs : IntKind.i64.signed = true := rfl
    have H := Lib.hid h
    clear h
    go_enter Try.func36, Try.ntmps36
    go_wp2
    go_ret
    exact ⟨ret_i64' (unzz_words_odd u h0 h1 H.out), rfl⟩

theorem signed_at (u v : Int) (w : World) (h0 : 0 ≤ u) (h1 : IsU u) (hv : Hid (unzz u = v)) :
    Calls Try.prog 36 #[.int .u64 u] w fun e w' => e = .returned (.int .i64 v) ∧ w = w' := hv.out ▸ signed_any u w h0 h1

set_option maxHeartbeats 400000 in
theorem isTick_any (v : Int) (w : World) :
    Calls Try.prog 31 #[.int .i64 v] w fun e w' => e = .returned (.bool (modB v)) ∧ w = w' := by
  by_cases h : -1073741824 ≤ v
  · have H : Hid (modB v = decide (v ≤ 1073741824)) := by unfold Hid modB; rw [decide_eq_true h]; rfl
    go_enter Try.func31, Try.ntmps31
    go_wp2
    go_ret
    exact ⟨ret_bool H.out.symm, rfl⟩
  · have hd : decide (-1073741824 ≤ v) = false := decide_eq_false h
    have H : Hid (modB v = false) := by unfold Hid modB; rw [hd]; rfl
    go_enter Try.func31, Try.ntmps31
    go_wp2
    go_ret
    exact ⟨ret_bool H.out.symm, rfl⟩

theorem isTick_at (v : Int) (b : Bool) (w : World) (h : Hid (modB v = b)) :
    Calls Try.prog 31 #[.int .i64 v] w fun e w' => e = .returned (.bool b) ∧ w = w' := h.out ▸ isTick_any v w

set_option maxHeartbeats 400000 in
theorem moderate_any (v : Int) (w : World) :
    Calls Try.prog 33 #[.int .i64 v] w fun e w' => e = .returned (.bool (modB v)) ∧ w = w' := by
  by_cases h : -1073741824 ≤ v
  · have H : Hid (modB v = decide (v ≤ 1073741824)) := by unfold Hid modB; rw [decide_eq_true h]; rfl
    go_enter Try.func33, Try.ntmps33
    go_wp2
    go_ret
    exact ⟨ret_bool H.out.symm, rfl⟩
  · have hd : decide (-1073741824 ≤ v) = false := decide_eq_false h
    have H : Hid (modB v = false) := by unfold Hid modB; rw [hd]; rfl
    go_enter Try.func33, Try.ntmps33
    go_wp2
    go_ret
    exact ⟨ret_bool H.out.symm, rfl⟩

theorem moderate_at (v : Int) (b : Bool) (w : World) (h : Hid (modB v = b)) :
    Calls Try.prog 33 #[.int .i64 v] w fun e w' => e = .returned (.bool b) ∧ w = w' := h.out ▸ moderate_any v w

end Go.Proofs.Ytimabgaobhfiaaa
