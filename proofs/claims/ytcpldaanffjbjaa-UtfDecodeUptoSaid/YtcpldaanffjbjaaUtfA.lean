/-
  Contracts of the small functions of package utf.
-/
import Derived.Test.YtcpldaanffjbjaaRows
import Derived.Test.YtcpldaanffjbjaaUtfSpec
import Derived.Test.YtcpldaanffjbjaaBits
import Derived.WalkKit
import Derived.WalkSpells
import Derived.WalkLawsBesides
namespace Go.Proofs.Ytcpldaanffjbjaa
open Go.RowKit

set_option maxHeartbeats 400000 in
theorem length_any (c : Int) (w : World) :
    Calls Try.prog 14 #[.int .i64 c] w fun e w' => e = .returned (.int .i64 (lenS c)) ∧ w = w' := by
  unfold lenS
  by_cases h1 : c < 0
  · go_enter Try.func14, Try.ntmps14
    go_wp2
    go_ret
    exact ⟨rfl, rfl⟩
  by_cases h2 : 1114111 < c
  · go_enter Try.func14, Try.ntmps14
    go_wp2
    go_ret
    exact ⟨rfl, rfl⟩
  go_enter Try.func14, Try.ntmps14
  go_wp2
  all_goals
    go_ret
    exact ⟨rfl, rfl⟩

set_option maxHeartbeats 400000 in
theorem isFurther_yes (b : Int) (w : World) (h0 : 128 ≤ b) (h1 : b < 192) :
    Calls Try.prog 32 #[.int .u8 b] w fun e w' => e = .returned (.bool true) ∧ w = w' := by
  go_enter Try.func32, Try.ntmps32
  go_wp2
  go_ret
  exact ⟨rfl, rfl⟩

set_option maxHeartbeats 400000 in
theorem isFurther_no (b : Int) (w : World) (h0 : b < 128 ∨ 192 ≤ b) :
    Calls Try.prog 32 #[.int .u8 b] w fun e w' => e = .returned (.bool false) ∧ w = w' := by
  by_cases h1 : b < 128
  · go_enter Try.func32, Try.ntmps32
    go_wp2
    go_ret
    exact ⟨rfl, rfl⟩
  · have h2 : 192 ≤ b := by omega
    clear h0
    go_enter Try.func32, Try.ntmps32
    go_wp2
    go_ret
    exact ⟨by simp; omega, rfl⟩

set_option maxHeartbeats 400000 in
theorem splitFirst_any (b : Int) (w : World) (h0 : 0 ≤ b) (h1 : b ≤ 255) :
    Calls Try.prog 31 #[.int .u8 b] w fun e w' => e = .returned (.tuple #[.int .i64 (sfC b), .int .i64 (sfN b)]) ∧ w = w' := by
  unfold sfC sfN
  by_cases h2 : 128 ≤ b ∧ b < 192
  · obtain ⟨h3, h4⟩ := h2
    go_enter Try.func31, Try.ntmps31
    go_wp2_with (go_at_call 32; refine (isFurther_yes _ _ (by assumption) (by assumption)).mono ?_; rintro e w' ⟨rfl, rfl⟩)
    go_ret2
    exact ⟨rfl, rfl⟩
  · have h3 : b < 128 ∨ 192 ≤ b := by omega
    clear h2
    go_enter Try.func31, Try.ntmps31
    go_wp2_with (go_at_call 32; refine (isFurther_no _ _ (by assumption)).mono ?_; rintro e w' ⟨rfl, rfl⟩)
    all_goals
      go_ret2
      exact ⟨rfl, rfl⟩

set_option maxHeartbeats 400000 in
theorem further_any (c : Int) (w : World) (h0 : 0 ≤ c) (h1 : c ≤ 1114111) :
    Calls Try.prog 30 #[.int .i64 c] w fun e w' => e = .returned (.int .u8 (128 + c % 64)) ∧ w = w' := by
  have hm := i64_and63 c h0 (by omega)
  have ho := i64_or128 (c % 64) (by omega) (by omega)
  have hw : IntKind.u8.wrap (128 + c % 64) = 128 + c % 64 := by rw [IntKind.wrap_u8]; omega
  go_enter Try.func30, Try.ntmps30
  go_wp2
  go_ret
  exact ⟨rfl, rfl⟩

theorem Try.info5 : (Try.prog.info? 5).map (fun i => (i.zero, i.size, i.bytes)) = some (some (.int .u8 0), 1, 1) := by kernel_rfl

/-- What an append leaves: the slice that is returned owns the old elements and the new ones; below B nothing has changed. -/
def Appended (B : Nat) (n : Nat) (xs : List Value) (news : List Int) (w : World) (e : Ending) (w' : World) : Prop :=
  ∃ v', e = .returned v' ∧ w'.ownsRow B 5 1 v' (n + news.length) (xs ++ news.map (.int .u8)) ∧ Below B w w'

set_option maxHeartbeats 400000 in
theorem appendScalar_1 (B : Nat) (v : Value) (n : Nat) (xs : List Value) (c : Int) (w : World) (hB : B ≤ w.heap.size) (hown : w.ownsRow B 5 1 v n xs) (hn : n ≤ 1099511627776)
    (h0 : 0 ≤ c) (h1 : c ≤ 127) :
    Calls Try.prog 23 #[v, .int .i64 c] w (Appended B n xs [c] w) := by
  have hl : ((lenS c : Int) == 1) = true := by unfold lenS; simp; omega
  obtain ⟨i0, hi, hz0, hz1, hz2⟩ := info_parts Try.info5
  have hw : IntKind.u8.wrap c = c := by rw [IntKind.wrap_u8]; omega
  go_enter Try.func23, Try.ntmps23
  go_wp2_with (first
    | (go_at_call 14; refine (length_any _ _).mono ?_; rintro e w' ⟨rfl, rfl⟩)
    | (at_builtin; refine wpList_append_own _ rfl _ _ 22 rfl B 5 i0 (.int .u8 0) 1 1 Try.underlying22 hi hz0 hz1 hz2 rfl (by decide) _ _ _ rfl (hown.alloc _) ⟨w.heap.size, 0, none⟩ 1 1 [.int .u8 c] rfl rfl ?c1 ?c2 ?c3 ?c4 ?c5 ?_))
  case c1 => exact cell_one_new _ _ _
  case c2 => intro u hu; simp at hu; subst hu; rfl
  case c3 => unfold maxLen; omega
  case c4 => omega
  case c5 => simp; omega
  intro v' w1 hown1 hg _
  go_wp2
  go_ret
  exact ⟨_, rfl, hown1, ((Below.refl _ _).alloc hB _).grown hg (by simp; omega) (fun k hk => (hown.lt k hk).1)⟩

theorem cells_lit_new (w : World) (C : Array Value) (t : TypeId) (l : List Value) (h : C.toList = l) : ∀ j u, l[j]? = some u → (w.alloc (.cells C t)).cell? ((⟨w.heap.size, 0, none⟩ : Addr).add j) = some u := by
  intro j u hu
  subst h
  rw [Addr.add_lit, World.cell?_alloc_new]
  simpa using hu

set_option maxHeartbeats 400000 in
theorem appendScalar_2 (B : Nat) (v : Value) (n : Nat) (xs : List Value) (c : Int) (w : World) (hB : B ≤ w.heap.size) (hown : w.ownsRow B 5 1 v n xs) (hn : n ≤ 1099511627776)
    (h0 : 128 ≤ c) (h1 : c ≤ 2047) :
    Calls Try.prog 23 #[v, .int .i64 c] w (Appended B n xs [192 + c / 64, 128 + c % 64] w) := by
  have hl1 : ((lenS c : Int) == 1) = false := by unfold lenS; simp; omega
  have hl2 : ((lenS c : Int) == 2) = true := by unfold lenS; simp; omega
  obtain ⟨i0, hi, hz0, hz1, hz2⟩ := info_parts Try.info5
  have b1 : bits .or .i64 192 (c / 64) = 192 + c / 64 := i64_or192 _ (by omega) (by omega)
  have e1 : (192 + c / 64) % 256 = 192 + c / 64 := by omega
  go_enter Try.func23, Try.ntmps23
  go_wp2_with (first
    | (go_at_call 14; refine (length_any _ _).mono ?_; rintro e w' ⟨rfl, rfl⟩)
    | (go_at_call 30; refine (further_any _ _ (by omega) (by omega)).mono ?_; rintro e w' ⟨rfl, rfl⟩)
    | (at_builtin; refine wpList_append_own _ rfl _ _ 22 rfl B 5 i0 (.int .u8 0) 1 1 Try.underlying22 hi hz0 hz1 hz2 rfl (by decide) _ _ _ rfl (hown.alloc _) ⟨w.heap.size, 0, none⟩ 2 2 [.int .u8 (192 + c / 64), .int .u8 (128 + c % 64)] rfl rfl ?c1 ?c2 ?c3 ?c4 ?c5 ?_))
  case c1 => exact cells_lit_new _ _ _ _ rfl
  case c2 => intro u hu; simp at hu; rcases hu with rfl | rfl <;> rfl
  case c3 => unfold maxLen; omega
  case c4 => omega
  case c5 => simp; omega
  intro v' w1 hown1 hg _
  go_wp2
  go_ret
  exact ⟨_, rfl, hown1, ((Below.refl _ _).alloc hB _).grown hg (by simp; omega) (fun k hk => (hown.lt k hk).1)⟩

set_option maxHeartbeats 400000 in
theorem appendScalar_3 (B : Nat) (v : Value) (n : Nat) (xs : List Value) (c : Int) (w : World) (hB : B ≤ w.heap.size) (hown : w.ownsRow B 5 1 v n xs) (hn : n ≤ 1099511627776)
    (h0 : 2048 ≤ c) (h1 : c ≤ 65535) (h2 : ¬ (55296 ≤ c ∧ c ≤ 57343)) :
    Calls Try.prog 23 #[v, .int .i64 c] w (Appended B n xs [224 + c / 4096, 128 + c / 64 % 64, 128 + c % 64] w) := by
  have hl1 : ((lenS c : Int) == 1) = false := by unfold lenS; simp; omega
  have hl2 : ((lenS c : Int) == 2) = false := by unfold lenS; simp; omega
  have hl3 : ((lenS c : Int) == 3) = true := by unfold lenS; simp; omega
  obtain ⟨i0, hi, hz0, hz1, hz2⟩ := info_parts Try.info5
  have b1 : bits .or .i64 224 (c / 4096) = 224 + c / 4096 := i64_or224 _ (by omega) (by omega)
  have e1 : (224 + c / 4096) % 256 = 224 + c / 4096 := by omega
  clear h2
  go_enter Try.func23, Try.ntmps23
  go_wp2_with (first
    | (go_at_call 14; refine (length_any _ _).mono ?_; rintro e w' ⟨rfl, rfl⟩)
    | (go_at_call 30; refine (further_any _ _ (by omega) (by omega)).mono ?_; rintro e w' ⟨rfl, rfl⟩)
    | (at_builtin; refine wpList_append_own _ rfl _ _ 22 rfl B 5 i0 (.int .u8 0) 1 1 Try.underlying22 hi hz0 hz1 hz2 rfl (by decide) _ _ _ rfl (hown.alloc _) ⟨w.heap.size, 0, none⟩ 3 3 [.int .u8 (224 + c / 4096), .int .u8 (128 + c / 64 % 64), .int .u8 (128 + c % 64)] rfl rfl ?c1 ?c2 ?c3 ?c4 ?c5 ?_))
  case c1 => exact cells_lit_new _ _ _ _ rfl
  case c2 => intro u hu; simp at hu; rcases hu with rfl | rfl | rfl <;> rfl
  case c3 => unfold maxLen; omega
  case c4 => omega
  case c5 => simp; omega
  intro v' w1 hown1 hg _
  go_wp2
  go_ret
  exact ⟨_, rfl, hown1, ((Below.refl _ _).alloc hB _).grown hg (by simp; omega) (fun k hk => (hown.lt k hk).1)⟩

set_option maxHeartbeats 400000 in
theorem appendScalar_4 (B : Nat) (v : Value) (n : Nat) (xs : List Value) (c : Int) (w : World) (hB : B ≤ w.heap.size) (hown : w.ownsRow B 5 1 v n xs) (hn : n ≤ 1099511627776)
    (h0 : 65536 ≤ c) (h1 : c ≤ 1114111) :
    Calls Try.prog 23 #[v, .int .i64 c] w (Appended B n xs [240 + c / 262144, 128 + c / 4096 % 64, 128 + c / 64 % 64, 128 + c % 64] w) := by
  have hl1 : ((lenS c : Int) == 1) = false := by unfold lenS; simp; omega
  have hl2 : ((lenS c : Int) == 2) = false := by unfold lenS; simp; omega
  have hl3 : ((lenS c : Int) == 3) = false := by unfold lenS; simp; omega
  obtain ⟨i0, hi, hz0, hz1, hz2⟩ := info_parts Try.info5
  have b1 : bits .or .i64 240 (c / 262144) = 240 + c / 262144 := i64_or240 _ (by omega) (by omega)
  have e1 : (240 + c / 262144) % 256 = 240 + c / 262144 := by omega
  go_enter Try.func23, Try.ntmps23
  go_wp2_with (first
    | (go_at_call 14; refine (length_any _ _).mono ?_; rintro e w' ⟨rfl, rfl⟩)
    | (go_at_call 30; refine (further_any _ _ (by omega) (by omega)).mono ?_; rintro e w' ⟨rfl, rfl⟩)
    | (at_builtin; refine wpList_append_own _ rfl _ _ 22 rfl B 5 i0 (.int .u8 0) 1 1 Try.underlying22 hi hz0 hz1 hz2 rfl (by decide) _ _ _ rfl (hown.alloc _) ⟨w.heap.size, 0, none⟩ 4 4 [.int .u8 (240 + c / 262144), .int .u8 (128 + c / 4096 % 64), .int .u8 (128 + c / 64 % 64), .int .u8 (128 + c % 64)] rfl rfl ?c1 ?c2 ?c3 ?c4 ?c5 ?_))
  case c1 => exact cells_lit_new _ _ _ _ rfl
  case c2 => intro u hu; simp at hu; rcases hu with rfl | rfl | rfl | rfl <;> rfl
  case c3 => unfold maxLen; omega
  case c4 => omega
  case c5 => simp; omega
  intro v' w1 hown1 hg _
  go_wp2
  go_ret
  exact ⟨_, rfl, hown1, ((Below.refl _ _).alloc hB _).grown hg (by simp; omega) (fun k hk => (hown.lt k hk).1)⟩

theorem appendScalar_any (B : Nat) (v : Value) (n : Nat) (xs : List Value) (c : Int) (w : World) (hB : B ≤ w.heap.size) (hown : w.ownsRow B 5 1 v n xs) (hn : n ≤ 1099511627776)
    (hc : lenS c ≠ 0) :
    Calls Try.prog 23 #[v, .int .i64 c] w (Appended B n xs (encB c) w) := by
  unfold lenS at hc
  unfold encB
  split
  · exact appendScalar_1 B v n xs c w hB hown hn (by omega) (by omega)
  split
  · exact appendScalar_2 B v n xs c w hB hown hn (by omega) (by omega)
  split
  · exact appendScalar_3 B v n xs c w hB hown hn (by omega) (by omega) (by omega)
  · exact appendScalar_4 B v n xs c w hB hown hn (by omega) (by omega)

end Go.Proofs.Ytcpldaanffjbjaa
