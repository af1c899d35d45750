/-
  puny: contracts of the small functions: threshold, digit, digitValue, nextWeight, isBasic, Adapt; and of the reference's.
-/
import Derived.Test.YtmnnpfohjffniaaPkA
import Derived.Test.YtmnnpfohjffniaaPkZZA
import Derived.PlainAid
set_option linter.unusedSimpArgs false
set_option linter.unusedVariables false
namespace Go.Proofs.Ytmnnpfohjffniaa
open Go.RowKit

theorem pun_ret {a b : Int} (h : a = b) : Ending.returned (.int .i64 a) = .returned (.int .i64 b) := by rw [h]
theorem pun_ret8 {a b : Int} (h : a = b) : Ending.returned (.int .u8 a) = .returned (.int .u8 b) := by rw [h]
theorem pun_retB {a b : Bool} (h : a = b) : Ending.returned (.bool a) = .returned (.bool b) := by rw [h]

set_option maxHeartbeats 400000 in
theorem thr_at (j b T : Nat) (w : World) (hj : j ≤ 1099511627776) (hb : b ≤ 70368744177664) (hT : Hid (thr b j = T)) :
    Calls Try.prog 47 #[.int .i64 j, .int .i64 b] w fun e w' => e = .returned (.int .i64 T) ∧ w' = w := by
  have hT' : (T : Int) = min 26 (max 1 (36 * ((j : Int) + 1) - b)) := by rw [← hT.out]; unfold thr; omega
  rcases (show 36 * ((j : Int) + 1) - b < 1 ∨ (¬ 36 * ((j : Int) + 1) - b < 1 ∧ ¬ 1 < 36 * ((j : Int) + 1) - b) ∨ (1 < 36 * ((j : Int) + 1) - b ∧ 36 * ((j : Int) + 1) - b < 26) ∨ (26 ≤ 36 * ((j : Int) + 1) - b ∧ ¬ 26 < 36 * ((j : Int) + 1) - b) ∨ 26 < 36 * ((j : Int) + 1) - b by omega) with h1 | ⟨h1, h2⟩ | ⟨h1, h2⟩ | ⟨h1, h2⟩ | h1
  all_goals
    have HT := Lib.hid hT'
    clear hT'
    go_enter Try.func47, Try.ntmps47
    go_wp2
    all_goals
      go_ret
      exact ⟨pun_ret (by rw [HT.out]; omega), rfl⟩

set_option maxHeartbeats 400000 in
theorem rthr_at (j b T : Nat) (w : World) (hj : j ≤ 1099511627776) (hb : b ≤ 70368744177664) (hT : Hid (thr b j = T)) :
    Calls Try.prog 50 #[.int .i64 j, .int .i64 b] w fun e w' => e = .returned (.int .i64 T) ∧ w' = w := by
  have hT' : (T : Int) = min 26 (max 1 (36 * ((j : Int) + 1) - b)) := by rw [← hT.out]; unfold thr; omega
  rcases (show 36 * ((j : Int) + 1) - b < 1 ∨ (¬ 36 * ((j : Int) + 1) - b < 1 ∧ ¬ 1 < 36 * ((j : Int) + 1) - b) ∨ (1 < 36 * ((j : Int) + 1) - b ∧ 36 * ((j : Int) + 1) - b < 26) ∨ (26 ≤ 36 * ((j : Int) + 1) - b ∧ ¬ 26 < 36 * ((j : Int) + 1) - b) ∨ 26 < 36 * ((j : Int) + 1) - b by omega) with h1 | ⟨h1, h2⟩ | ⟨h1, h2⟩ | ⟨h1, h2⟩ | h1
  all_goals
    have HT := Lib.hid hT'
    clear hT'
    go_enter Try.func50, Try.ntmps50
    go_wp2
    all_goals
      go_ret
      exact ⟨pun_ret (by rw [HT.out]; omega), rfl⟩

set_option maxHeartbeats 400000 in
theorem digit_at (v : Nat) (B : Int) (w : World) (h : v < 36) (hB : Hid (pdigB v = B)) :
    Calls Try.prog 48 #[.int .i64 v] w fun e w' => e = .returned (.int .u8 B) ∧ w' = w := by
  rw [← hB.out]
  unfold pdigB
  by_cases h1 : v < 26
  · have hw : IntKind.u8.wrap (97 + (v : Int)) = 97 + v := by rw [IntKind.wrap_u8]; omega
    go_enter Try.func48, Try.ntmps48
    go_wp2
    go_ret
    refine ⟨pun_ret8 ?_, rfl⟩
    first | rfl | (rw [if_pos h1])
  · have hw : IntKind.u8.wrap (48 + (v : Int) - 26) = 22 + v := by rw [IntKind.wrap_u8]; omega
    go_enter Try.func48, Try.ntmps48
    go_wp2
    go_ret
    refine ⟨pun_ret8 ?_, rfl⟩
    first | rfl | (rw [if_neg h1]) | omega

/-- The value of a digit, as digitValue gives it. -/
def dvN (o : Option Nat) : Nat := match o with | none => 0 | some d => d

set_option maxHeartbeats 400000 in
theorem digv_at (c : Int) (o : Option Nat) (w : World) (h0 : 0 ≤ c) (h1 : c ≤ 255) (hO : Hid (digV c = o)) :
    Calls Try.prog 59 #[.int .u8 c] w fun e w' => e = .returned (.tuple #[.int .i64 (dvN o : Nat), .bool o.isSome]) ∧ w' = w := by
  by_cases a0 : 97 ≤ c ∧ c ≤ 122
  · obtain ⟨b1, b2⟩ := a0
    obtain rfl : some (c - 97).toNat = o := by rw [← hO.out]; unfold digV; rw [if_pos ⟨b1, b2⟩]
    have HE : Hid (((dvN (some (c - 97).toNat) : Nat) : Int) = c - 97) := by unfold Hid; simp only [dvN]; omega
    clear hO
    go_enter Try.func59, Try.ntmps59
    go_wp2
    go_ret2
    exact ⟨by rw [HE.out]; first | rfl | (exact pun_ret (by omega)) | (simp; omega), rfl⟩
  by_cases a1 : 65 ≤ c ∧ c ≤ 90
  · obtain ⟨b1, b2⟩ := a1
    have c0 : ¬ 97 ≤ c := by omega
    obtain rfl : some (c - 65).toNat = o := by rw [← hO.out]; unfold digV; rw [if_neg (by omega), if_pos ⟨b1, b2⟩]
    have HE : Hid (((dvN (some (c - 65).toNat) : Nat) : Int) = c - 65) := by unfold Hid; simp only [dvN]; omega
    clear hO
    go_enter Try.func59, Try.ntmps59
    go_wp2
    go_ret2
    exact ⟨by rw [HE.out]; first | rfl | (exact pun_ret (by omega)) | (simp; omega), rfl⟩
  by_cases a2 : 48 ≤ c ∧ c ≤ 57
  · obtain ⟨b1, b2⟩ := a2
    have c0 : ¬ 97 ≤ c := by omega
    have c1 : ¬ 65 ≤ c := by omega
    obtain rfl : some (c - 22).toNat = o := by rw [← hO.out]; unfold digV; rw [if_neg (by omega), if_neg (by omega), if_pos ⟨b1, b2⟩]
    have HE : Hid (((dvN (some (c - 22).toNat) : Nat) : Int) = c - 22) := by unfold Hid; simp only [dvN]; omega
    clear hO
    go_enter Try.func59, Try.ntmps59
    go_wp2
    go_ret2
    exact ⟨by rw [HE.out]; first | rfl | (exact pun_ret (by omega)) | (simp; omega), rfl⟩
  · obtain rfl : none = o := by rw [← hO.out]; unfold digV; rw [if_neg a0, if_neg a1, if_neg a2]
    clear hO
    go_enter Try.func59, Try.ntmps59
    go_wp2
    all_goals first
      | (exfalso; omega)
      | (go_ret2
         exact ⟨rfl, rfl⟩)

/-- The value of a digit, as the reference gives it. -/
def rvI (o : Option Nat) : Int := match o with | none => -1 | some d => d

def nextW (W f : Nat) : Nat := if 2147483647 / f < W then 2147483648 else W * f
set_option maxHeartbeats 400000 in
theorem nextw_at (W f V : Nat) (w : World) (h0 : 1 ≤ f) (h1 : f ≤ 36) (h2 : W ≤ 2147483648) (hV : Hid (nextW W f = V)) :
    Calls Try.prog 60 #[.int .i64 W, .int .i64 f] w fun e w' => e = .returned (.int .i64 V) ∧ w' = w := by
  rw [← hV.out]
  unfold nextW
  obtain ⟨q, hqq⟩ : ∃ q, 2147483647 / f = q := ⟨_, rfl⟩
  have hq : (2147483647 : Int).tdiv (f : Int) = (q : Int) := by rw [← hqq]; rfl
  have hle : q ≤ 2147483647 := by rw [← hqq]; exact Nat.div_le_self _ _
  have hb : W * f ≤ 2147483648 * 36 := Nat.mul_le_mul h2 h1
  obtain ⟨p, hpp⟩ : ∃ p, W * f = p := ⟨_, rfl⟩
  have hm : (W : Int) * (f : Int) = (p : Int) := by rw [← hpp, Int.natCast_mul]
  rw [hpp] at hb
  rw [hqq, hpp]
  clear hqq hpp
  by_cases h3 : q < W
  all_goals
    go_enter Try.func60, Try.ntmps60
    go_wp2
    go_ret
    exact ⟨rfl, rfl⟩

set_option maxHeartbeats 400000 in
theorem isbasic_at (c : Int) (B : Bool) (w : World) (hB : Hid (basB c = B)) :
    Calls Try.prog 43 #[.int .i64 c] w fun e w' => e = .returned (.bool B) ∧ w' = w := by
  rw [← hB.out]
  unfold basB
  go_enter Try.func43, Try.ntmps43
  go_wp2
  go_ret
  exact ⟨rfl, rfl⟩

set_option maxHeartbeats 400000 in
/-- Length is 0 at what is no scalar value. -/
theorem len_no (c : Int) (w : World) (h : scpB c = false) :
    Calls Try.prog 30 #[.int .i64 c] w fun e w' => e = .returned (.int .i64 0) ∧ w' = w := by
  have h' : c < 0 ∨ 1114111 < c ∨ (55296 ≤ c ∧ c ≤ 57343) := by unfold scpB at h; simp at h; omega
  clear h
  rcases h' with h1 | h1 | ⟨h1, h2⟩
  · go_enter Try.func30, Try.ntmps30
    go_wp2
    go_ret
    exact ⟨rfl, rfl⟩
  · have h2 : ¬ c < 0 := by omega
    go_enter Try.func30, Try.ntmps30
    go_wp2
    go_ret
    exact ⟨rfl, rfl⟩
  · have h3 : ¬ c < 0 := by omega
    have h4 : ¬ 1114111 < c := by omega
    go_enter Try.func30, Try.ntmps30
    go_wp2
    go_ret
    exact ⟨rfl, rfl⟩

set_option maxHeartbeats 400000 in
theorem len_yes (c : Int) (w : World) (h : scpB c = true) :
    Calls Try.prog 30 #[.int .i64 c] w fun e w' => (∃ n : Nat, 1 ≤ n ∧ n ≤ 4 ∧ e = .returned (.int .i64 n)) ∧ w' = w := by
  have h' : ¬ c < 0 ∧ ¬ 1114111 < c ∧ ¬ (55296 ≤ c ∧ c ≤ 57343) := by unfold scpB at h; simp at h; omega
  obtain ⟨h1, h2, h3⟩ := h'
  clear h
  go_enter Try.func30, Try.ntmps30
  go_wp2
  all_goals first
    | (exfalso; omega)
    | (go_ret; exact ⟨⟨1, by omega, by omega, rfl⟩, rfl⟩)
    | (go_ret; exact ⟨⟨2, by omega, by omega, rfl⟩, rfl⟩)
    | (go_ret; exact ⟨⟨3, by omega, by omega, rfl⟩, rfl⟩)
    | (go_ret; exact ⟨⟨4, by omega, by omega, rfl⟩, rfl⟩)

set_option maxHeartbeats 400000 in
theorem pscalar_at (c : Int) (B : Bool) (w : World) (hB : Hid (scpB c = B)) :
    Calls Try.prog 38 #[.int .i64 c] w fun e w' => e = .returned (.bool B) ∧ w' = w := by
  rw [← hB.out]
  unfold scpB
  go_enter Try.func38, Try.ntmps38
  go_wp2
  all_goals
    go_ret
    refine ⟨pun_retB ?_, rfl⟩
    rw [Bool.eq_iff_iff]
    simp
    try omega

/-! Adapt -/
theorem adL_stop {d k : Nat} (h : ¬ 455 < d) : adL d k = k + 36 * d / (d + 38) := by rw [adL, dif_neg h]
theorem adL_go {d k : Nat} (h : 455 < d) : adL d k = adL (d / 35) (k + 36) := by rw [adL, dif_pos h]

theorem adaptN_bd (d p : Nat) (f : Bool) (hd : d ≤ 1099511627776) : adaptN d p f ≤ 2199023255588 := by
  unfold adaptN
  have h1 : (if f = true then d / 700 else d / 2) ≤ d := by split <;> omega
  obtain ⟨x, hx⟩ : ∃ x, (if f = true then d / 700 else d / 2) = x := ⟨_, rfl⟩
  rw [hx] at h1 ⊢
  have := Nat.div_le_self x p
  have := adL_le (x + x / p) 0
  omega

theorem adaptS_in {d p : Int} {f : Bool} {n m : Nat} (hd : d = n) (hp : p = m) (h1 : n ≤ 1099511627776) (h2 : 1 ≤ m) (h3 : m ≤ 4096) : adaptS d p f = adaptN n m f := by
  subst hd; subst hp
  unfold adaptS
  rw [if_pos (by omega)]; rfl

set_option maxHeartbeats 1000000 in
theorem adapt_at_in (d p B : Nat) (f : Bool) (w : World) (h1 : d ≤ 1099511627776) (h2 : 1 ≤ p) (h3 : p ≤ 4096) (hB : Hid (adaptN d p f = B)) :
    Calls Try.prog 49 #[.int .i64 d, .int .i64 p, .bool f] w fun e w' => e = .returned (.int .i64 B) ∧ w' = w := by
  obtain ⟨x, hx⟩ : ∃ x, (if f = true then d / 700 else d / 2) = x := ⟨_, rfl⟩
  have hxd : x ≤ d := by rw [← hx]; split <;> omega
  obtain ⟨y, hy⟩ : ∃ y, x / p = y := ⟨_, rfl⟩
  have hyx : y ≤ x := by rw [← hy]; exact Nat.div_le_self _ _
  have HB : Hid (adL (x + y) 0 = B) := by unfold Hid; rw [← hB.out, adaptN, hx, hy]
  have hq : (x : Int).tdiv (p : Int) = (y : Int) := by rw [← hy]; rfl
  clear hy hB
  cases f
  · simp at hx
    have hxq : (d : Int).tdiv 2 = (x : Int) := by rw [← hx]; rfl
    have HX := Lib.hid hx
    clear hx
    go_enter Try.func49, Try.ntmps49
    go_wp2
    go_loopw [0, 7] (fun u v wr => ∃ D K : Nat, u = .int .i64 D ∧ v = .int .i64 K ∧ D + K ≤ 2199023255588 ∧ Hid (adL D K = B) ∧ wr = w) (fun u _ _ => (intOf u).toNat)
    case atStart => exact ⟨x + y, 0, by go_num, rfl, by omega, HB, rfl⟩
    case round =>
      obtain ⟨D, K, rfl, rfl, hD, hA, rfl⟩ := hrel
      by_cases h : 455 < D
      · have hq1 : (D : Int).tdiv 35 = ((D / 35 : Nat) : Int) := rfl
        have HA : Hid (adL (D / 35) (K + 36) = B) := by unfold Hid; rw [← hA.out, adL_go h]
        obtain ⟨E, hE⟩ : ∃ E, D / 35 = E := ⟨_, rfl⟩
        rw [hE] at hq1 HA
        have hEb : E + 36 ≤ D := by omega
        clear hE hA
        go_wp2
        go_roundw
        case rel => exact ⟨E, K + 36, rfl, by go_num, by omega, HA, by first | rfl | trivial⟩
        case measure => simp [intOf]; omega
      · have HA : Hid (K + 36 * D / (D + 38) = B) := by unfold Hid; rw [← hA.out, adL_stop h]
        have hq1 : (36 * (D : Int)).tdiv ((D : Int) + 38) = ((36 * D / (D + 38) : Nat) : Int) := rfl
        have hqb : 36 * D / (D + 38) ≤ 36 * D := Nat.div_le_self _ _
        obtain ⟨E, hE⟩ : ∃ E, 36 * D / (D + 38) = E := ⟨_, rfl⟩
        rw [hE] at hq1 HA hqb
        clear hE hA
        go_wp2
        go_ret
        exact ⟨pun_ret (by rw [← HA.out]; omega), rfl⟩

  · simp at hx
    have hxq : (d : Int).tdiv 700 = (x : Int) := by rw [← hx]; rfl
    have HX := Lib.hid hx
    clear hx
    go_enter Try.func49, Try.ntmps49
    go_wp2
    go_loopw [0, 7] (fun u v wr => ∃ D K : Nat, u = .int .i64 D ∧ v = .int .i64 K ∧ D + K ≤ 2199023255588 ∧ Hid (adL D K = B) ∧ wr = w) (fun u _ _ => (intOf u).toNat)
    case atStart => exact ⟨x + y, 0, by go_num, rfl, by omega, HB, rfl⟩
    case round =>
      obtain ⟨D, K, rfl, rfl, hD, hA, rfl⟩ := hrel
      by_cases h : 455 < D
      · have hq1 : (D : Int).tdiv 35 = ((D / 35 : Nat) : Int) := rfl
        have HA : Hid (adL (D / 35) (K + 36) = B) := by unfold Hid; rw [← hA.out, adL_go h]
        obtain ⟨E, hE⟩ : ∃ E, D / 35 = E := ⟨_, rfl⟩
        rw [hE] at hq1 HA
        have hEb : E + 36 ≤ D := by omega
        clear hE hA
        go_wp2
        go_roundw
        case rel => exact ⟨E, K + 36, rfl, by go_num, by omega, HA, by first | rfl | trivial⟩
        case measure => simp [intOf]; omega
      · have HA : Hid (K + 36 * D / (D + 38) = B) := by unfold Hid; rw [← hA.out, adL_stop h]
        have hq1 : (36 * (D : Int)).tdiv ((D : Int) + 38) = ((36 * D / (D + 38) : Nat) : Int) := rfl
        have hqb : 36 * D / (D + 38) ≤ 36 * D := Nat.div_le_self _ _
        obtain ⟨E, hE⟩ : ∃ E, 36 * D / (D + 38) = E := ⟨_, rfl⟩
        rw [hE] at hq1 HA hqb
        clear hE hA
        go_wp2
        go_ret
        exact ⟨pun_ret (by rw [← HA.out]; omega), rfl⟩


set_option maxHeartbeats 1000000 in
theorem adapt_at (d p B : Int) (f : Bool) (w : World) (hB : Hid (adaptS d p f = B)) :
    Calls Try.prog 49 #[.int .i64 d, .int .i64 p, .bool f] w fun e w' => e = .returned (.int .i64 B) ∧ w' = w := by
  by_cases h1 : d < 0
  · have : B = 0 := by rw [← hB.out]; unfold adaptS; rw [if_neg (by omega)]
    subst this
    go_enter Try.func49, Try.ntmps49
    go_wp2
    go_ret
    exact ⟨rfl, rfl⟩
  by_cases h2 : 1099511627776 < d
  · have : B = 0 := by rw [← hB.out]; unfold adaptS; rw [if_neg (by omega)]
    subst this
    go_enter Try.func49, Try.ntmps49
    go_wp2
    go_ret
    exact ⟨rfl, rfl⟩
  by_cases h3 : p < 1
  · have : B = 0 := by rw [← hB.out]; unfold adaptS; rw [if_neg (by omega)]
    subst this
    go_enter Try.func49, Try.ntmps49
    go_wp2
    go_ret
    exact ⟨rfl, rfl⟩
  by_cases h4 : 4096 < p
  · have : B = 0 := by rw [← hB.out]; unfold adaptS; rw [if_neg (by omega)]
    subst this
    go_enter Try.func49, Try.ntmps49
    go_wp2
    go_ret
    exact ⟨rfl, rfl⟩
  obtain ⟨n, rfl⟩ : ∃ n : Nat, d = n := ⟨d.toNat, by omega⟩
  obtain ⟨m, rfl⟩ : ∃ m : Nat, p = m := ⟨p.toNat, by omega⟩
  rw [← hB.out, adaptS_in rfl rfl (by omega) (by omega) (by omega)]
  exact adapt_at_in n m _ f w (by omega) (by omega) (by omega) rfl


set_option maxHeartbeats 1000000 in
theorem radapt_at_in (d p B : Nat) (f : Bool) (w : World) (h1 : d ≤ 1099511627776) (h2 : 1 ≤ p) (h3 : p ≤ 4096) (hB : Hid (adaptN d p f = B)) :
    Calls Try.prog 41 #[.int .i64 d, .int .i64 p, .bool f] w fun e w' => e = .returned (.int .i64 B) ∧ w' = w := by
  obtain ⟨x, hx⟩ : ∃ x, (if f = true then d / 700 else d / 2) = x := ⟨_, rfl⟩
  have hxd : x ≤ d := by rw [← hx]; split <;> omega
  obtain ⟨y, hy⟩ : ∃ y, x / p = y := ⟨_, rfl⟩
  have hyx : y ≤ x := by rw [← hy]; exact Nat.div_le_self _ _
  have HB : Hid (adL (x + y) 0 = B) := by unfold Hid; rw [← hB.out, adaptN, hx, hy]
  have hq : (x : Int).tdiv (p : Int) = (y : Int) := by rw [← hy]; rfl
  clear hy hB
  cases f
  · simp at hx
    have hxq : (d : Int).tdiv 2 = (x : Int) := by rw [← hx]; rfl
    have HX := Lib.hid hx
    clear hx
    go_enter Try.func41, Try.ntmps41
    go_wp2
    go_loopw [0, 7] (fun u v wr => ∃ D K : Nat, u = .int .i64 D ∧ v = .int .i64 K ∧ D + K ≤ 2199023255588 ∧ Hid (adL D K = B) ∧ wr = w) (fun u _ _ => (intOf u).toNat)
    case atStart => exact ⟨x + y, 0, by go_num, rfl, by omega, HB, rfl⟩
    case round =>
      obtain ⟨D, K, rfl, rfl, hD, hA, rfl⟩ := hrel
      by_cases h : 455 < D
      · have hq1 : (D : Int).tdiv 35 = ((D / 35 : Nat) : Int) := rfl
        have HA : Hid (adL (D / 35) (K + 36) = B) := by unfold Hid; rw [← hA.out, adL_go h]
        obtain ⟨E, hE⟩ : ∃ E, D / 35 = E := ⟨_, rfl⟩
        rw [hE] at hq1 HA
        have hEb : E + 36 ≤ D := by omega
        clear hE hA
        go_wp2
        go_roundw
        case rel => exact ⟨E, K + 36, rfl, by go_num, by omega, HA, by first | rfl | trivial⟩
        case measure => simp [intOf]; omega
      · have HA : Hid (K + 36 * D / (D + 38) = B) := by unfold Hid; rw [← hA.out, adL_stop h]
        have hq1 : (36 * (D : Int)).tdiv ((D : Int) + 38) = ((36 * D / (D + 38) : Nat) : Int) := rfl
        have hqb : 36 * D / (D + 38) ≤ 36 * D := Nat.div_le_self _ _
        obtain ⟨E, hE⟩ : ∃ E, 36 * D / (D + 38) = E := ⟨_, rfl⟩
        rw [hE] at hq1 HA hqb
        clear hE hA
        go_wp2
        go_ret
        exact ⟨pun_ret (by rw [← HA.out]; omega), rfl⟩

  · simp at hx
    have hxq : (d : Int).tdiv 700 = (x : Int) := by rw [← hx]; rfl
    have HX := Lib.hid hx
    clear hx
    go_enter Try.func41, Try.ntmps41
    go_wp2
    go_loopw [0, 7] (fun u v wr => ∃ D K : Nat, u = .int .i64 D ∧ v = .int .i64 K ∧ D + K ≤ 2199023255588 ∧ Hid (adL D K = B) ∧ wr = w) (fun u _ _ => (intOf u).toNat)
    case atStart => exact ⟨x + y, 0, by go_num, rfl, by omega, HB, rfl⟩
    case round =>
      obtain ⟨D, K, rfl, rfl, hD, hA, rfl⟩ := hrel
      by_cases h : 455 < D
      · have hq1 : (D : Int).tdiv 35 = ((D / 35 : Nat) : Int) := rfl
        have HA : Hid (adL (D / 35) (K + 36) = B) := by unfold Hid; rw [← hA.out, adL_go h]
        obtain ⟨E, hE⟩ : ∃ E, D / 35 = E := ⟨_, rfl⟩
        rw [hE] at hq1 HA
        have hEb : E + 36 ≤ D := by omega
        clear hE hA
        go_wp2
        go_roundw
        case rel => exact ⟨E, K + 36, rfl, by go_num, by omega, HA, by first | rfl | trivial⟩
        case measure => simp [intOf]; omega
      · have HA : Hid (K + 36 * D / (D + 38) = B) := by unfold Hid; rw [← hA.out, adL_stop h]
        have hq1 : (36 * (D : Int)).tdiv ((D : Int) + 38) = ((36 * D / (D + 38) : Nat) : Int) := rfl
        have hqb : 36 * D / (D + 38) ≤ 36 * D := Nat.div_le_self _ _
        obtain ⟨E, hE⟩ : ∃ E, 36 * D / (D + 38) = E := ⟨_, rfl⟩
        rw [hE] at hq1 HA hqb
        clear hE hA
        go_wp2
        go_ret
        exact ⟨pun_ret (by rw [← HA.out]; omega), rfl⟩


set_option maxHeartbeats 1000000 in
theorem radapt_at (d p B : Int) (f : Bool) (w : World) (hB : Hid (adaptS d p f = B)) :
    Calls Try.prog 41 #[.int .i64 d, .int .i64 p, .bool f] w fun e w' => e = .returned (.int .i64 B) ∧ w' = w := by
  by_cases h1 : d < 0
  · have : B = 0 := by rw [← hB.out]; unfold adaptS; rw [if_neg (by omega)]
    subst this
    go_enter Try.func41, Try.ntmps41
    go_wp2
    go_ret
    exact ⟨rfl, rfl⟩
  by_cases h2 : 1099511627776 < d
  · have : B = 0 := by rw [← hB.out]; unfold adaptS; rw [if_neg (by omega)]
    subst this
    go_enter Try.func41, Try.ntmps41
    go_wp2
    go_ret
    exact ⟨rfl, rfl⟩
  by_cases h3 : p < 1
  · have : B = 0 := by rw [← hB.out]; unfold adaptS; rw [if_neg (by omega)]
    subst this
    go_enter Try.func41, Try.ntmps41
    go_wp2
    go_ret
    exact ⟨rfl, rfl⟩
  by_cases h4 : 4096 < p
  · have : B = 0 := by rw [← hB.out]; unfold adaptS; rw [if_neg (by omega)]
    subst this
    go_enter Try.func41, Try.ntmps41
    go_wp2
    go_ret
    exact ⟨rfl, rfl⟩
  obtain ⟨n, rfl⟩ : ∃ n : Nat, d = n := ⟨d.toNat, by omega⟩
  obtain ⟨m, rfl⟩ : ∃ m : Nat, p = m := ⟨p.toNat, by omega⟩
  rw [← hB.out, adaptS_in rfl rfl (by omega) (by omega) (by omega)]
  exact radapt_at_in n m _ f w (by omega) (by omega) (by omega) rfl

end Go.Proofs.Ytmnnpfohjffniaa
