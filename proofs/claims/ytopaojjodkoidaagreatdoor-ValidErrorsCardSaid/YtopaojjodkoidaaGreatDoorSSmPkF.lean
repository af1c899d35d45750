/- The contract of keep.Same at int. The laws of table: awake.  -/
import Derived.Test.YtopaojjodkoidaaGreatDoorSSmPkA
import Derived.Deep.QuietTactic
import Derived.BigQuiet
import Derived.Test.YtopaojjodkoidaaGreatDoorSSmPkE
import Derived.Test.YtopaojjodkoidaaGreatDoorSSmTabRC
import Derived.Test.YtopaojjodkoidaaGreatDoorSSmPkZZU
set_option linter.unusedSimpArgs false
set_option linter.unusedVariables false
namespace Go.Proofs.YtopaojjodkoidaaGreatDoor
open Go.RowKit
theorem beq_take_snoc (xs ys : List Int) (k : Nat) (hx : k < xs.length) (hy : k < ys.length) (h : xs.take k = ys.take k) (he : xs.getD k 0 = ys.getD k 0) : xs.take (k + 1) = ys.take (k + 1) := by
 rw [take_snoc_int xs k hx, take_snoc_int ys k hy, h, he]
theorem ne_of_getD (xs ys : List Int) (k : Nat) (he : xs.getD k 0 ≠ ys.getD k 0) : (xs == ys) = false := by
 simp only [beq_eq_false_iff_ne, ne_eq]
 rintro rfl
 exact he rfl
set_option maxHeartbeats 1000000 in
theorem same_any (p q : Option Addr) (c d : Nat) (xs ys : List Int) (w : World) (hx : IntsIn w p xs) (hy : IntsIn w q ys) (hxl : xs.length ≤ maxLen) (hyl : ys.length ≤ maxLen) :
 Calls Tryz.prog 19 #[.slice p xs.length c, .slice q ys.length d] w fun e w' => e = .returned (.bool (xs == ys)) ∧ Below w.heap.size w w' := by
 unfold maxLen at hxl hyl
 by_cases hl : xs.length = ys.length
 ·have hne : ((xs.length : Int) != (ys.length : Int)) = false := by simp [hl]
  have HX := Lib.hid hx
  have HY := Lib.hid hy
  have HL := Lib.hid hl
  clear hl hx hy
  go_enter Tryz.func19, Tryz.ntmps19
  go_wp2
  go_loopw [13] (fun i wr => ∃ k : Nat, k ≤ xs.length ∧ i = .int .i64 k ∧ Hid (xs.take k = ys.take k) ∧ Below w.heap.size w wr) (fun i _ => xs.length - (intOf i).toNat)
  case atStart => exact ⟨0, Nat.zero_le _, rfl, rfl, Below.refl _ _⟩
  case round =>
   obtain ⟨k, hk, rfl, ht, hbel⟩ := hrel
   by_cases hlt : k < xs.length
   ·obtain ⟨b1, o1, rfl, hc1⟩ := (HX.out.below hbel) k hlt
    obtain ⟨b2, o2, rfl, hc2⟩ := (HY.out.below hbel) k (by rw [← HL.out]; exact hlt)
    have hlt2 : k < ys.length := by rw [← HL.out]; exact hlt
    obtain ⟨x, hxx⟩ : ∃ x, xs.getD k 0 = x := ⟨_, rfl⟩
    obtain ⟨y, hyy⟩ : ∃ y, ys.getD k 0 = y := ⟨_, rfl⟩
    rw [hxx] at hc1
    rw [hyy] at hc2
    by_cases hxy : x = y
    ·have hb : (x != y) = false := by simp [hxy]
     have HS : Hid (xs.take (k + 1) = ys.take (k + 1)) := beq_take_snoc xs ys k hlt hlt2 ht.out (by rw [hxx, hyy, hxy])
     clear hxx hyy hxy
     go_wp2
     go_quiet (fail)
     go_wp2
     go_roundw
     case rel => exact ⟨k + 1, by omega, by go_num, HS, below_drewN hbel _⟩
     case measure => simp [intOf]; omega
    ·have hb : (x != y) = true := by simp [hxy]
     have HS : Hid ((xs == ys) = false) := ne_of_getD xs ys k (by rw [hxx, hyy]; exact hxy)
     clear hxx hyy hxy
     go_wp2
     go_quiet (fail)
     go_wp2
     go_ret
     rw [HS.out]
     exact ⟨rfl, below_drewN hbel _⟩
   ·obtain rfl : k = xs.length := by omega
    have HS : Hid ((xs == ys) = true) := by
     have := ht.out
     rw [List.take_length, HL.out, List.take_length] at this
     simp [Hid, this]
    go_wp2
    go_ret
    rw [HS.out]
    exact ⟨rfl, hbel⟩
 ·have hne : ((xs.length : Int) != (ys.length : Int)) = true := by simp; omega
  have HE : Hid ((xs == ys) = false) := by
   simp only [Hid, beq_eq_false_iff_ne, ne_eq]
   rintro rfl
   exact hl rfl
  clear hl hx hy
  go_enter Tryz.func19, Tryz.ntmps19
  go_wp2
  go_ret
  rw [HE.out]
  exact ⟨rfl, Below.refl _ _⟩
theorem noS (w : World) : SpV w (.slice none 0 0) [] := ⟨none, 0, rfl, fun k hk => absurd hk (Nat.not_lt_zero _), by simp⟩
theorem noI (w : World) : InV w (.slice none 0 0) [] := ⟨none, 0, rfl, fun k hk => absurd hk (Nat.not_lt_zero _), by simp⟩
noncomputable def layB (w p : World) : World := @ite _ (Below w.heap.size w p) (Classical.propDecidable _) p w.drew
theorem layB_below (w p : World) : Below w.heap.size w (layB w p) := by
 unfold layB
 by_cases h : Below w.heap.size w p
 ·rw [if_pos h]; exact h
 ·rw [if_neg h]; exact drew_one w
theorem layB_of {w W : World} (h : Below w.heap.size w W) : W = layB w W := by
 unfold layB; rw [if_pos h]
theorem layB_cell {w : World} {a : Addr} {v : Value} (h : w.cell? a = some v) (p : World) : (layB w p).cell? a = some v :=
 ((layB_below w p).cell (World.block_lt_of_cell? w _ h)).trans h
theorem wp_region_layB {P : Program} {id : Nat} {Q : Exit → Act → World → Prop} {a : Act} {w : World} {l : List Oper} (hm : P.follows .mixedOrders = true) (hB : Region.lexB .any l.toArray = true)
 (h : wpQuiet P l.toArray (fun w' => ∃ p : World, w' = layB w p) (fun a' => ∀ w', (∃ p : World, w' = layB w p) → Q .normal a' w') l a) : (Code.region id l.toArray true).wp P Q a w :=
 wp_region_quiet (C := fun w' => ∃ p : World, w' = layB w p) hm hB ⟨_, layB_of (drew_one w)⟩ (by simpa using h)
theorem layB_call {P : Program} {f : FuncId} {args : Array Value} {w p : World} {v : Value} (h : ∀ W, Below w.heap.size w W → Calls P f args W (Gives v W)) :
 Calls P f args (layB w p) fun e w'' => e = .returned v ∧ ∃ q : World, w'' = layB w q :=
 (h _ (layB_below w p)).mono fun _ w'' ⟨he, hb⟩ => ⟨he, w'', layB_of ((layB_below w p).trans (hb.mono (layB_below w p).size))⟩
theorem wpAny_layB {P : Program} {md : Region.Mode} {ops : Array Oper} {Q : Exit → Act → World → Prop} {n : Nat} {listed : Array Bool} {a : Act} {w : World} (k : Nat) (l : List Oper) (hl : ops.toList.drop k = l) (hn : n = l.length)
 (hs : Region.noSelect ops = true) (hB : Region.lexFrom md ops l.length k listed = true)
 (h : wpQuiet P ops (fun w' => ∃ p : World, w' = layB w p) (fun a' => ∀ w', (∃ p : World, w' = layB w p) → Q .normal a' w') l a) : wpAny P md ops Q n listed a w := by
 subst hn
 refine wpAny_of_quiet (C := fun w' => ∃ p : World, w' = layB w p) (Q := fun a' => ∀ w', (∃ p : World, w' = layB w p) → Q .normal a' w') (fun _ w' hw' h => h w' hw') _ _ _ _ ⟨w, layB_of (Below.refl _ _)⟩ ?_
 refine wpAnyQ_lex hs l k listed a (fun j => ?_) hB h
 rw [← hl]; simp
end Go.Proofs.YtopaojjodkoidaaGreatDoor
