/-
  The references of ranges: Check, valid.
-/
import Derived.Test.YtopaojjodkoidaaGreatDoorSSmPkA
set_option linter.unusedSimpArgs false
set_option linter.unusedVariables false
namespace Go.Proofs.YtopaojjodkoidaaGreatDoor
open Go.RowKit
def okS (l : List Sp) (lo hi : Int) : Bool := ascB 0 l && l.all fun s => decide (lo ≤ s.1) && decide (s.2.1 ≤ hi)
theorem checkS_ok (l : List Sp) (lo hi : Int) : checkS l lo hi = (decide (l.length ≤ 256) && okS l lo hi) := by
 simp only [checkS, validS, okS, Bool.and_assoc]
theorem okS_snoc (a : List Sp) (s : Sp) (lo hi : Int) : okS (a ++ [s]) lo hi = true ↔ okS a lo hi = true ∧ ¬ (s.1 < ends 0 a ∨ s.2.1 < s.1 ∨ 1114111 < s.2.1 ∨ s.1 < lo ∨ hi < s.2.1) := by
 simp only [okS, Bool.and_eq_true, asc_snoc_iff, List.all_append, List.all_cons, List.all_nil, Bool.and_true, decide_eq_true_eq]
 constructor
 ·rintro ⟨⟨h1, h2⟩, h3, h4⟩; exact ⟨⟨h1, h3⟩, by omega⟩
 ·rintro ⟨⟨h1, h3⟩, h4⟩; exact ⟨⟨h1, by omega⟩, h3, by omega, by omega⟩
theorem okS_prefix {l : List Sp} {lo hi : Int} (k : Nat) (h : okS (l.take k) lo hi = false) : okS l lo hi = false := by
 cases hb : okS l lo hi with
 | false => rfl
 | true =>
  have e := List.take_append_drop k l
  simp only [okS, Bool.and_eq_true] at hb
  rw [← e, asc_append, List.all_append, Bool.and_eq_true] at hb
  have : okS (l.take k) lo hi = true := by simp only [okS, Bool.and_eq_true]; exact ⟨hb.1.1, hb.2.1⟩
  rw [this] at h; cases h
theorem ends_take (l : List Sp) (j : Nat) (h : j < l.length) : ends 0 (l.take (j + 1)) = (l.getD j sp0).2.1 + 1 := by
 rw [take_snoc_sp l j h, ends_append]; rfl
set_option maxRecDepth 100000 in
set_option maxHeartbeats 4000000 in
theorem rcheck_any (p : Option Addr) (n c : Nat) (l : List Sp) (lo hi : Int) (w : World) (hl : l.length = n) (hn : n ≤ maxLen) (hin : SpIn w p l) :
 Calls Tryz.prog 147 #[.slice p n c, .int .i64 lo, .int .i64 hi] w fun e w' => e = .returned (.bool (checkS l lo hi)) ∧ Below w.heap.size w w' := by
 unfold maxLen at hn
 have HI := Lib.hid hin
 have HL := Lib.hid hl
 clear hin hl
 by_cases hbig : 256 < n
 ·have HV : Hid (checkS l lo hi = false) := by unfold Hid; rw [checkS_ok, HL.out, decide_eq_false (by omega)]; rfl
  go_enter Tryz.func147, Tryz.ntmps147
  go_wp2
  go_ret
  rw [HV.out]
  exact ⟨rfl, Below.refl _ _⟩
 ·have HC : Hid (checkS l lo hi = okS l lo hi) := by unfold Hid; rw [checkS_ok, HL.out, decide_eq_true (by omega)]; rfl
  go_enter Tryz.func147, Tryz.ntmps147
  go_wp2
  go_loopw [14] (fun i wr => ∃ k : Nat, k ≤ n ∧ i = .int .i64 k ∧ Hid (okS (l.take k) lo hi = true) ∧ Below w.heap.size w wr) (fun i _ => n - (intOf i).toNat)
  case atStart => exact ⟨0, Nat.zero_le _, rfl, rfl, Below.refl _ _⟩
  case round =>
   obtain ⟨k, hk, rfl, hok, hbel⟩ := hrel
   by_cases hlt : k < n
   ·have hkl : k < l.length := by rw [HL.out]; exact hlt
    obtain ⟨b, off, rfl, hc1, hc2, hc3⟩ := (HI.out.below hbel) k hkl
    have HB := Lib.hid hbel
    obtain ⟨⟨f, t, v⟩, hs⟩ : ∃ s, l.getD k sp0 = s := ⟨_, rfl⟩
    rw [hs] at hc1 hc2 hc3
    have HS := Lib.hid hs
    clear hs hbel
    go_upto_region 6 with (fail)
    go_cut [60] (fun cc wx => ∃ B : Bool, cc = .bool B ∧ Hid (B = true ↔ (f < ends 0 (l.take k) ∨ t < f ∨ 1114111 < t ∨ f < lo ∨ hi < t)) ∧ Hid (Below w.heap.size w wx))
    case first =>
     have he : Hid (0 ≤ ends 0 (l.take k)) := by
      have := hok.out
      simp only [okS, Bool.and_eq_true] at this
      have h2 := ends_ge this.1
      unfold Hid; omega
     by_cases h1 : f < 0
     ·go_quiet (fail)
      go_wp2_with fail
      go_meet
      exact ⟨true, rfl, by unfold Hid; have := he.out; simp; omega, below_drewN_sp (HB.out.alloc HB.out.size _) _⟩
     ·have d1 : decide (f < 0) = false := decide_eq_false h1
      clear h1
      by_cases h2 : t < f
      ·go_quiet (fail)
       go_wp2_with fail
       go_meet
       exact ⟨true, rfl, by unfold Hid; simp; omega, below_drewN_sp (HB.out.alloc HB.out.size _) _⟩
      ·have d2 : decide (t < f) = false := decide_eq_false h2
       by_cases h3 : 1114111 < t
       ·go_quiet (fail)
        go_wp2_with fail
        go_meet
        exact ⟨true, rfl, by unfold Hid; simp; omega, below_drewN_sp (HB.out.alloc HB.out.size _) _⟩
       ·have d3 : decide (1114111 < t) = false := decide_eq_false h3
        by_cases h4 : f < lo
        ·go_quiet (fail)
         go_wp2_with fail
         go_meet
         exact ⟨true, rfl, by unfold Hid; simp; omega, below_drewN_sp (HB.out.alloc HB.out.size _) _⟩
        ·have d4 : decide (f < lo) = false := decide_eq_false h4
         by_cases h5 : hi < t
         ·go_quiet (fail)
          go_wp2_with fail
          go_meet
          exact ⟨true, rfl, by unfold Hid; simp; omega, below_drewN_sp (HB.out.alloc HB.out.size _) _⟩
         ·have d5 : decide (hi < t) = false := decide_eq_false h5
          have h1' : 0 ≤ f := by have := of_decide_eq_false d1; omega
          cases k with
          | zero =>
           have HZ : Hid (ends 0 (l.take 0) = 0) := rfl
           clear he h2 h3 h4 h5
           go_quiet (fail)
           go_wp2_with fail
           go_meet
           exact ⟨false, rfl, by unfold Hid; rw [HZ.out]; have := of_decide_eq_false d2; have := of_decide_eq_false d3; have := of_decide_eq_false d4; have := of_decide_eq_false d5; simp; omega, below_drewN_sp (HB.out.alloc HB.out.size _) _⟩
          | succ j =>
           have hj : j < l.length := by omega
           obtain ⟨b', off', e', q1, q2, q3⟩ := (HI.out.below HB.out) j hj
           injection e' with e'
           injection e' with e1 e2
           subst e1; subst e2
           have HZ := Lib.hid (ends_take l j hj)
           obtain ⟨⟨pf, pt, pv⟩, hp⟩ : ∃ s, l.getD j sp0 = s := ⟨_, rfl⟩
           rw [hp] at q1 q2 q3 HZ
           simp only at q1 q2 q3
           have q2' : (wr.alloc (.cells #[.int .i64 f, .int .i64 t, .int .i64 v] 45)).cell? ⟨b, off + j * 3 + 1, none⟩ = some (.int .i64 pt) := (World.cell?_alloc_lt wr _ ⟨b, off + j * 3 + 1, none⟩ (World.block_lt_of_cell? wr _ q2)).trans q2
           have hk0 : (0 : Int) < (j : Int) + 1 := by omega
           have hj0 : (0 : Int) ≤ (j : Int) := by omega
           have hj1 : (j : Int) < (n : Int) := by omega
           have hx1 : IntKind.i64.wrap ((j : Int) + 1 - 1) = j := by rw [IntWalk.i64_in _ (by omega)]; omega
           have hx2 : IntKind.i64.wrap (j : Int) = j := IntWalk.i64_in _ (by omega)
           clear hp he h2 h3 h4 h5
           by_cases h6 : f ≤ pt
           ·go_quiet (fail)
            go_wp2_with fail
            go_meet
            exact ⟨true, rfl, by unfold Hid; rw [HZ.out]; simp; omega, below_drewN_sp (HB.out.alloc HB.out.size _) _⟩
           ·have d6 : decide (f ≤ pt) = false := decide_eq_false h6
            go_quiet (fail)
            go_wp2_with fail
            go_meet
            exact ⟨false, rfl, by unfold Hid; rw [HZ.out]; have := of_decide_eq_false d2; have := of_decide_eq_false d3; have := of_decide_eq_false d4; have := of_decide_eq_false d5; simp; omega, below_drewN_sp (HB.out.alloc HB.out.size _) _⟩
    case rest =>
     obtain ⟨B, rfl, hBB, hb2⟩ := hcut
     cases B
     ·have HN : Hid (okS (l.take (k + 1)) lo hi = true) := by
       unfold Hid
       rw [take_snoc_sp l k hkl, okS_snoc, HS.out]
       exact ⟨hok.out, fun h => by have := hBB.out.2 h; cases this⟩
      clear hBB hok
      go_wp2
      go_roundw
      case rel => exact ⟨k + 1, by omega, by go_num, HN, hb2.out⟩
      case measure => simp [intOf]; omega
     ·have HN : Hid (okS l lo hi = false) := by
       unfold Hid
       apply okS_prefix (k + 1)
       rw [← Bool.not_eq_true, take_snoc_sp l k hkl, okS_snoc, HS.out]
       exact fun h => h.2 (hBB.out.1 rfl)
      clear hBB hok
      go_wp2
      go_ret
      rw [HC.out, HN.out]
      exact ⟨rfl, hb2.out⟩
   ·obtain rfl : k = n := by omega
    have HV : Hid (okS l lo hi = true) := by
     unfold Hid
     have := hok.out
     rwa [List.take_of_length_le (Nat.le_of_eq HL.out)] at this
    have HB := Lib.hid hbel
    clear hbel hok
    go_wp2
    go_ret
    rw [HC.out, HV.out]
    exact ⟨rfl, HB.out⟩
theorem rcheck_at (p : Option Addr) (n c : Nat) (l : List Sp) (lo hi : Int) (B : Bool) (w : World) (hl : Hid (l.length = n)) (hn : n ≤ maxLen) (hin : SpIn w p l) (hB : Hid (checkS l lo hi = B)) :
 Calls Tryz.prog 147 #[.slice p n c, .int .i64 lo, .int .i64 hi] w fun e w' => e = .returned (.bool B) ∧ Below w.heap.size w w' := by
 have := rcheck_any p n c l lo hi w hl.out hn hin
 rw [hB.out] at this
 exact this
end Go.Proofs.YtopaojjodkoidaaGreatDoor
