/-
  near, flat, the example of chapter 5; what the statements share.
-/
import Derived.Test.YtnhldkneeegohaaHanRef
import Derived.Test.YtnhldkneeegohaaSame
import Derived.Test.YtnhldkneeegohaaPick
namespace Go.Proofs.Ytnhldkneeegohaa
open Go.RowKit
set_option linter.unusedVariables false

theorem sameI_at (p q : Option Addr) (c d n m : Nat) (xs : List Int) (w : World) (hx : IntsIn w p xs) (hy : IntsIn w q xs) (hn : Hid (xs.length = n)) (hm : Hid (xs.length = m)) (hl : xs.length ≤ maxLen) :
    Calls Try.prog 14 #[.slice p n c, .slice q m d] w fun e w' => e = .returned (.bool true) ∧ Below w.heap.size w w' := by
  have h1 := hn.out
  have h2 := hm.out
  subst h1; subst h2
  have := same_any p q c d xs xs w hx hy hl hl
  rwa [show (xs == xs) = true by simp] at this

theorem pickP_at (v n q : Int) (w : World) (h0 : 1 ≤ n) (h1 : n ≤ 1125899906842624) (hq : Hid (pickS v n = q)) :
    Calls Try.prog 17 #[.int .i64 v, .int .i64 n] w fun e w' => e = .returned (.int .i64 q) ∧ w = w' := hq.out ▸ pickL_any v n w h0 h1

theorem pick_name (v n : Int) (h : 1 ≤ n) : ∃ z, Hid (pickS v n = z) ∧ 0 ≤ z ∧ z < n := ⟨_, rfl, pickS_bd v n h⟩

/-- A number. -/
def AnInt (w : World) (e : Ending) (w' : World) : Prop := ∃ c : Int, e = .returned (.int .i64 c) ∧ w = w'

set_option maxHeartbeats 1000000 in
theorem near_any (v : Int) (w : World) : Calls Try.prog 8 #[.int .i64 v] w (AnInt w) := by
  obtain ⟨q, HQ, hq0, hq1⟩ := pick_name v 8 (by omega)
  have hq : q = 0 ∨ q = 1 ∨ q = 2 ∨ (q ≠ 0 ∧ q ≠ 1 ∧ q ≠ 2) := by omega
  clear hq0 hq1
  rcases hq with rfl | rfl | rfl | ⟨g0, g1, g2⟩
  · go_enter Try.func8, Try.ntmps8
    go_wp2_with fail
    refine (pickP_at v 8 0 _ (by omega) (by omega) HQ).mono ?_
    rintro e w' ⟨rfl, rfl⟩
    go_wp2
    go_ret
    exact ⟨_, rfl, rfl⟩
  · go_enter Try.func8, Try.ntmps8
    go_wp2_with fail
    refine (pickP_at v 8 1 _ (by omega) (by omega) HQ).mono ?_
    rintro e w' ⟨rfl, rfl⟩
    go_wp2_with fail
    refine (pickP_at _ 60 _ _ (by omega) (by omega) (Lib.hid rfl)).mono ?_
    rintro e w' ⟨rfl, rfl⟩
    go_wp2
    go_ret
    exact ⟨_, rfl, rfl⟩
  · go_enter Try.func8, Try.ntmps8
    go_wp2_with fail
    refine (pickP_at v 8 2 _ (by omega) (by omega) HQ).mono ?_
    rintro e w' ⟨rfl, rfl⟩
    go_wp2_with fail
    refine (pickP_at _ 130 _ _ (by omega) (by omega) (Lib.hid rfl)).mono ?_
    rintro e w' ⟨rfl, rfl⟩
    go_wp2
    go_ret
    exact ⟨_, rfl, rfl⟩
  · have z0 : (q == 0) = false := by simp [g0]
    have z1 : (q == 1) = false := by simp [g1]
    have z2 : (q == 2) = false := by simp [g2]
    go_enter Try.func8, Try.ntmps8
    go_wp2_with fail
    refine (pickP_at v 8 q _ (by omega) (by omega) HQ).mono ?_
    rintro e w' ⟨rfl, rfl⟩
    go_wp2_with fail
    refine (pickP_at _ 11200 _ _ (by omega) (by omega) (Lib.hid rfl)).mono ?_
    rintro e w' ⟨rfl, rfl⟩
    go_wp2
    go_ret
    exact ⟨_, rfl, rfl⟩

set_option maxHeartbeats 1000000 in
theorem awake_any (w : World) : Calls Try.prog 11 #[] w fun e w' => e = .returned (.bool true) ∧ Below w.heap.size w w' := by
  have h1 : Hid (compS 4352 4449 = (44032, true)) := by unfold Hid; decide +kernel
  have h2 : Hid (decS 44033 = [4352, 4449, 4520]) := by unfold Hid; decide +kernel
  go_enter Try.func11, Try.ntmps11
  go_wp2_with fail
  refine (hcomp_at 4352 4449 44032 true _ h1).mono ?_
  rintro e w' ⟨rfl, rfl⟩
  go_wp2_with fail
  refine (hdec_at 44033 [4352, 4449, 4520] _ h2).mono ?_
  rintro e w1 ⟨p1, c1, rfl, hi1, hb1⟩
  have H1 := Lib.hid (hi1.alloc (.cells #[.int .i64 4352, .int .i64 4449, .int .i64 4520] 3))
  have H2 := Lib.hid (ints_lit_at w1 #[.int .i64 4352, .int .i64 4449, .int .i64 4520] [4352, 4449, 4520] 3 rfl)
  have HB := Lib.hid (hb1.alloc hb1.size (.cells #[.int .i64 4352, .int .i64 4449, .int .i64 4520] 3))
  clear hi1 hb1
  go_wp2_with fail
  refine (sameI_at _ _ _ _ _ _ [4352, 4449, 4520] _ H1.out H2.out (Lib.hid rfl) (Lib.hid rfl) (by decide +kernel)).mono ?_
  rintro e w3 ⟨rfl, hb3⟩
  have HB3 := Lib.hid (HB.out.trans (hb3.mono HB.out.size))
  clear hb3
  go_wp2
  go_ret
  exact ⟨rfl, HB3.out⟩

theorem decS_len (c : Int) : (decS c).length ≤ 3 := by
  unfold decS
  split
  · split <;> simp
  · simp

set_option maxHeartbeats 1000000 in
theorem flat_at (c : Int) (L : List Int) (w : World) (h : Hid (flatS c = L)) :
    Calls Try.prog 20 #[.int .i64 c] w (GivesH L w) := by
  obtain ⟨D, hD⟩ : ∃ D, decS c = D := ⟨_, rfl⟩
  have hL := h.out
  unfold flatS at hL
  rw [hD] at hL
  have hlen := decS_len c
  rw [hD] at hlen
  have HD := Lib.hid hD
  clear h hD
  cases D with
  | nil =>
    have e : L = [c] := by rw [← hL]; rfl
    subst e
    clear hL hlen
    go_enter Try.func20, Try.ntmps20
    go_wp2_with fail
    refine (rhdec_at c [] _ HD).mono ?_
    rintro e w1 ⟨p1, c1, rfl, hi1, hb1⟩
    have HB1 := Lib.hid hb1
    clear hb1 hi1
    go_wp2
    go_ret
    exact ⟨_, _, rfl, ints_lit_at _ _ [c] _ rfl, HB1.out.alloc HB1.out.size _⟩
  | cons d D =>
    have e : L = d :: D := by rw [← hL]; rfl
    subst e
    clear hL
    obtain ⟨n, hn⟩ : ∃ n : Nat, (d :: D).length = n := ⟨_, rfl⟩
    have hn0 : 0 < n := by rw [← hn]; simp
    have hn1 : n ≤ 3 := by rw [← hn]; exact hlen
    have HN := Lib.hid hn
    have hp : decide ((0 : Int) < (n : Int)) = true := decide_eq_true (by omega)
    clear hn hlen
    go_enter Try.func20, Try.ntmps20
    go_wp2_with fail
    refine (rhdec_at c (d :: D) _ HD).mono ?_
    rintro e w1 ⟨p1, c1, rfl, hi1, hb1⟩
    have HI1 := Lib.hid hi1
    have HB1 := Lib.hid hb1
    clear hb1 hi1
    rw [HN.out]
    go_wp2
    go_ret
    exact ⟨p1, c1, by rw [HN.out]; rfl, HI1.out, HB1.out⟩

end Go.Proofs.Ytnhldkneeegohaa
