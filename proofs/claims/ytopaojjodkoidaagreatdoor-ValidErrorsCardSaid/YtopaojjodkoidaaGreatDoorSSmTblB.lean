/-
  keep.usual, keep.choose.
-/
import Derived.Test.YtopaojjodkoidaaGreatDoorSSmPkG
set_option linter.unusedSimpArgs false
set_option linter.unusedVariables false
namespace Go.Proofs.YtopaojjodkoidaaGreatDoor
open Go.RowKit
structure Six (u : Nat → Int) : Prop where
 cat : 0 ≤ u 0 ∧ u 0 ≤ 8
 cls : 0 ≤ u 1 ∧ u 1 ≤ 254
 joi : 0 ≤ u 2 ∧ u 2 ≤ 5
 bid : 0 ≤ u 3 ∧ u 3 ≤ 11
 scr : 0 ≤ u 4 ∧ u 4 ≤ 60
 sta : u 5 = 0 ∨ u 5 = 1 ∨ u 5 = 2 ∨ u 5 = 4
def sixF (a b c d e f : Int) : Nat → Int := fun i => [a, b, c, d, e, f].getD i 0
abbrev sixV (u : Nat → Int) : Value := .agg #[.int .i64 (u 0), .int .i64 (u 1), .int .i64 (u 2), .int .i64 (u 3), .int .i64 (u 4), .int .i64 (u 5)]
def UsualPost (w : World) (e : Ending) (w' : World) : Prop := ∃ u, Six u ∧ e = .returned (sixV u) ∧ Below w.heap.size w w'
theorem six_lit (a b c d e f : Int) (w w' : World) (hb : Below w.heap.size w w') (h : 0 ≤ a ∧ a ≤ 8 ∧ 0 ≤ b ∧ b ≤ 254 ∧ 0 ≤ c ∧ c ≤ 5 ∧ 0 ≤ d ∧ d ≤ 11 ∧ 0 ≤ e ∧ e ≤ 60 ∧ (f = 0 ∨ f = 1 ∨ f = 2 ∨ f = 4)) :
 UsualPost w (.returned (.agg #[.int .i64 a, .int .i64 b, .int .i64 c, .int .i64 d, .int .i64 e, .int .i64 f])) w' := by
 refine ⟨sixF a b c d e f, ⟨?_, ?_, ?_, ?_, ?_, ?_⟩, rfl, hb⟩ <;> simp only [sixF, List.getD_cons_zero, List.getD_cons_succ] <;> omega
theorem next_at (g : Nat) (r : List Int) (n v : Int) (w : World) (hs : Src w g r) (h0 : 1 ≤ n) (h1 : n ≤ 1073741824) (hv : Hid (nextV r n = v)) :
 Calls Tryz.prog 24 #[.pointer (some ⟨g, 0, none⟩), .int .i64 n] w (NextPost g v r.tail w) := hv.out ▸ next_any g r n w hs h0 h1
set_option maxHeartbeats 4000000 in
theorem usual_any (c : Int) (w : World) (hc : c ∈ poolL) : Calls Tryz.prog 26 #[.int .i64 c] w (UsualPost w) := by
 simp only [poolL, List.mem_cons, List.not_mem_nil, or_false] at hc
 rcases hc with rfl | rfl | rfl | rfl | rfl | rfl | rfl | rfl | rfl | rfl | rfl | rfl | rfl | rfl | rfl | rfl | rfl | rfl | rfl | rfl | rfl | rfl | rfl | rfl | rfl | rfl | rfl | rfl
 all_goals
  go_enter Tryz.func26, Tryz.ntmps26
  go_wp2
  refine bodyPost_ret (results_cell_row rfl _ _ w.heap.size _ _ _ _ rfl (heap_alloc_new _ _) Tryz.underlying56 rfl (by kernel_rfl)) rfl ?_
  exact six_lit _ _ _ _ _ _ _ _ (by first | exact ((Below.refl _ _).alloc (Nat.le_refl _) _) | exact ((Below.refl _ _).alloc (Nat.le_refl _) _).setCell (Nat.le_refl _) _ | trace_state) (by omega)
def ChoosePost (g : Nat) (zs : List Int) (w : World) (e : Ending) (w' : World) : Prop :=
 ∃ v r, e = .returned (.int .i64 v) ∧ v ∈ zs ∧ Src w' g r ∧ w.grownBy w' (some g)
theorem getD_mem_int (l : List Int) (k : Nat) (h : k < l.length) : l.getD k 0 ∈ l := by simp [h]
set_option maxHeartbeats 2000000 in
theorem choose_any (g : Nat) (r : List Int) (b : Nat) (off n cap : Nat) (zs : List Int) (w : World) (hs : Src w g r) (hin : IntsIn w (some ⟨b, off, none⟩) zs) (hn : zs.length = n) (h0 : 0 < n) (h1 : n ≤ 1000) (hb : b ≠ g) :
 Calls Tryz.prog 27 #[.pointer (some ⟨g, 0, none⟩), .slice (some ⟨b, off, none⟩) n cap] w (ChoosePost g zs w) := by
 obtain ⟨x, hx⟩ : ∃ x, nextV r 3 = x := ⟨_, rfl⟩
 obtain ⟨b0, b1⟩ := nextV_bd r 3 (by omega)
 rw [hx] at b0 b1
 have HX := Lib.hid hx
 have HS := Lib.hid hs
 have HI := Lib.hid hin
 have HN := Lib.hid hn
 clear hx hs hin hn
 by_cases hz : 0 < x
 ·go_enter Tryz.func27, Tryz.ntmps27
  go_wp2_with fail
  refine (next_at g r 3 x _ HS.out (by omega) (by omega) HX).mono ?_
  rintro e w1 ⟨rfl, hs1, hg1⟩
  obtain ⟨b', off', e', hc⟩ := (HI.out.grown hg1 (by intro b' off' e; cases e; exact hb)) 0 (by rw [HN.out]; exact h0)
  cases e'
  have HM := Lib.hid (getD_mem_int zs 0 (by rw [HN.out]; exact h0))
  obtain ⟨y, hy⟩ : ∃ y, zs.getD 0 0 = y := ⟨_, rfl⟩
  rw [hy] at hc HM
  simp only [Nat.add_zero] at hc
  have HS1 := Lib.hid hs1
  have HG1 := Lib.hid hg1
  clear hs1 hg1 hy
  go_wp2
  go_ret
  exact ⟨y, _, rfl, HM.out, HS1.out, HG1.out⟩
 ·obtain ⟨q, hq⟩ : ∃ q : Nat, nextV r.tail n = q := ⟨(nextV r.tail n).toNat, by have := nextV_bd r.tail n (by omega); omega⟩
  have hqn : q < n := by have := nextV_bd r.tail n (by omega); omega
  have HQ := Lib.hid hq
  clear hq
  go_enter Tryz.func27, Tryz.ntmps27
  go_wp2_with fail
  refine (next_at g r 3 x _ HS.out (by omega) (by omega) HX).mono ?_
  rintro e w1 ⟨rfl, hs1, hg1⟩
  have HI1 := Lib.hid (HI.out.grown hg1 (by intro b' off' e; cases e; exact hb))
  have HS1 := Lib.hid hs1
  have HG1 := Lib.hid hg1
  clear hs1 hg1
  go_wp2_with fail
  refine (next_at g r.tail n q _ HS1.out (by omega) (by omega) HQ).mono ?_
  rintro e w2 ⟨rfl, hs2, hg2⟩
  obtain ⟨b', off', e', hc⟩ := (HI1.out.grown hg2 (by intro b' off' e; cases e; exact hb)) q (by rw [HN.out]; exact hqn)
  cases e'
  have HM := Lib.hid (getD_mem_int zs q (by rw [HN.out]; exact hqn))
  obtain ⟨y, hy⟩ : ∃ y, zs.getD q 0 = y := ⟨_, rfl⟩
  rw [hy] at hc HM
  have HS2 := Lib.hid hs2
  have HG2 := Lib.hid (grownBy_trans HG1.out hg2)
  clear hs2 hg2 hy
  go_wp2
  go_ret
  exact ⟨y, _, rfl, HM.out, HS2.out, HG2.out⟩
end Go.Proofs.YtopaojjodkoidaaGreatDoor
