/-
  packed: GetInt.
  packed: the reader of codes.
  packed: GetList.
  packed: GetSpans.
  packed: how long the lists are that are read.
-/
import Derived.Test.YtnnhcgflmhjakaaGreatDoorPkL
import Derived.Deep.QuietTactic
import Derived.BigQuiet
import Derived.Test.YtnnhcgflmhjakaaGreatDoorPkA
import Derived.Test.YtnnhcgflmhjakaaGreatDoorPkC
set_option linter.unusedSimpArgs false
set_option linter.unusedVariables false
namespace Go.Proofs.YtnnhcgflmhjakaaGreatDoor
open Go.RowKit

theorem p7_pow (k : Nat) : p7 k = 2 ^ (7 * k) := by
  induction k with
  | zero => rfl
  | succ k ih =>
    rw [p7, ih, show 7 * (k + 1) = 7 * k + 7 by omega, Int.pow_add]
    omega

theorem p7_mono {k : Nat} (h : k ≤ 9) : p7 k ≤ 9223372036854775808 := by
  have e : ∀ d k, p7 k ≤ p7 (k + d) := by
    intro d k
    induction d with
    | zero => exact Int.le_refl _
    | succ d ih => have := p7_pos (k + d); rw [show k + (d + 1) = (k + d) + 1 by omega, p7]; omega
  have := e (9 - k) k
  rw [show k + (9 - k) = 9 by omega, p7_9] at this
  exact this

/-- 'u |= uint64(c) << (7 * k)'. -/
theorem or_step (U c : Int) (k : Nat) (h0 : 0 ≤ U) (h1 : U < p7 k) (h2 : 0 ≤ c) (h3 : c ≤ 127) (hk : k ≤ 9) (h9 : k = 9 → c ≤ 1) :
    bits .or .u64 U (IntKind.u64.wrap (c * 2 ^ (7 * k))) = U + c * p7 k := by
  have hp := p7_pos k
  have hm := p7_mono hk
  have hc : c * p7 k < 18446744073709551616 := by
    by_cases h : k = 9
    · have := h9 h
      have hc : c = 0 ∨ c = 1 := by omega
      rcases hc with rfl | rfl <;> omega
    · have h8 : p7 (k + 1) ≤ 9223372036854775808 := p7_mono (by omega)
      rw [p7] at h8
      have : c * p7 k ≤ 128 * p7 k := Int.mul_le_mul_of_nonneg_right (by omega) (by omega)
      omega
  have hc0 : 0 ≤ c * p7 k := Int.mul_nonneg h2 (by omega)
  rw [← p7_pow]
  rw [IntKind.wrap_u64, Int.emod_eq_of_lt hc0 hc]
  refine u64_or_join U (c * p7 k) (7 * k) h0 (by rw [← p7_pow]; exact h1) hc0 hc ?_ (by omega)
  rw [p7_pow]
  exact Int.mul_emod_left _ _

theorem nums_drop (s : ByteArray) (j : Nat) (h : j < s.size) : (nums s).drop j = (s[j].toNat : Int) :: (nums s).drop (j + 1) := by
  have hl : j < (nums s).length := by rw [nums_length]; exact h
  rw [List.drop_eq_getElem_cons hl]
  congr 1
  simp [nums]
  rfl

theorem getS_ok {s : ByteArray} {a : Nat} {U : Int} {n : Nat} (ha : a ≤ s.size) (h : getR 0 0 ((nums s).drop a) = (0, U, n)) : getS s a = (unzz U, (a : Int) + n, 0) := by
  rw [getS, if_neg (by omega), Int.toNat_natCast, h]; rfl

theorem getS_err {s : ByteArray} {a : Nat} {er : Int} (ha : a ≤ s.size) (h : getR 0 0 ((nums s).drop a) = (er, 0, 0)) (he : er ≠ 0) : getS s a = (0, (a : Int), er) := by
  rw [getS, if_neg (by omega), Int.toNat_natCast, h]
  simp only [if_neg he]

theorem getS_out {s : ByteArray} {a : Int} (h : a < 0 ∨ (s.size : Int) < a) : getS s a = (0, a, 3) := by
  rw [getS, if_pos h]

theorem getR_form {k : Nat} {U b : Int} {r : List Int} (h : (k = 9 ∧ b ≠ 1) ∨ (0 < k ∧ b = 0)) (h0 : 0 ≤ b) (hk : k ≤ 9) : getR k U (b :: r) = (4, 0, 0) := by
  rw [getR]
  by_cases h1 : k = 9 ∧ 1 < b
  · rw [if_pos h1]
  · rw [if_neg h1, if_pos (by omega), if_pos (by omega)]

theorem getR_last {k : Nat} {U b : Int} {r : List Int} (h1 : ¬ (k = 9 ∧ b ≠ 1)) (h2 : b < 128) (h3 : ¬ (0 < k ∧ b = 0)) (h0 : 0 ≤ b) : getR k U (b :: r) = (0, U + b * p7 k, k + 1) := by
  rw [getR, if_neg (by omega), if_pos h2, if_neg h3]

theorem getR_more {k : Nat} {U b : Int} {r : List Int} (h1 : k ≠ 9) (h2 : 128 ≤ b) : getR k U (b :: r) = getR (k + 1) (U + (b - 128) * p7 k) r := by
  rw [getR, if_neg (by omega), if_neg (by omega)]

theorem acc_bd {k : Nat} {U c : Int} (h1 : U < p7 k) (h3 : c ≤ 127) : U + c * p7 k < p7 (k + 1) := by
  have hp := p7_pos k
  have : c * p7 k ≤ 127 * p7 k := Int.mul_le_mul_of_nonneg_right h3 (by omega)
  rw [p7]; omega

theorem acc_u {k : Nat} {U c : Int} (h0 : 0 ≤ U) (h1 : U < p7 k) (h2 : 0 ≤ c) (h3 : c ≤ 127) (hk : k ≤ 9) (h9 : k = 9 → c ≤ 1) : 0 ≤ U + c * p7 k ∧ IsU (U + c * p7 k) := by
  have hp := p7_pos k
  have hm := p7_mono hk
  have hc0 : 0 ≤ c * p7 k := Int.mul_nonneg h2 (by omega)
  refine ⟨by omega, ?_⟩
  unfold IsU
  by_cases h : k = 9
  · have := h9 h
    have hc : c = 0 ∨ c = 1 := by omega
    rcases hc with rfl | rfl <;> omega
  · have h8 : p7 (k + 1) ≤ 9223372036854775808 := p7_mono (by omega)
    have := acc_bd h1 h3
    omega

/-- What GetInt leaves: the world, but for draws. -/
def GetPost (v i er : Int) (w : World) (e : Ending) (w' : World) : Prop :=
  e = .returned (.tuple #[.int .i64 v, .int .i64 i, .int .i64 er]) ∧ ∃ m, w' = w.drewN m

set_option maxHeartbeats 400000 in
theorem getInt_out (s : ByteArray) (a v i er : Int) (w : World) (hs : s.size ≤ maxLen) (h : a < 0 ∨ (s.size : Int) < a) (hE : Hid (getS s a = (v, i, er))) :
    Calls Tryz.prog 159 #[.string s, .int .i64 a] w (GetPost v i er w) := by
  unfold maxLen at hs
  have hE' := hE.out
  rw [getS_out h] at hE'
  injection hE' with e1 e2
  injection e2 with e2 e3
  subst e1; subst e2; subst e3
  by_cases h0 : a < 0
  · clear h
    go_enter Tryz.func159, Tryz.ntmps159
    go_wp2
    go_ret3
    exact ⟨rfl, 0, rfl⟩
  · have h1 : (s.size : Int) < a := by omega
    have h2 : decide (a < 0) = false := decide_eq_false h0
    clear h
    go_enter Tryz.func159, Tryz.ntmps159
    go_wp2
    go_ret3
    exact ⟨rfl, 0, rfl⟩

set_option maxRecDepth 100000 in
set_option maxHeartbeats 2000000 in
theorem getInt_in (s : ByteArray) (a : Nat) (v i er : Int) (w : World) (hs : s.size ≤ maxLen) (h : a ≤ s.size) (hE : Hid (getS s a = (v, i, er))) :
    Calls Tryz.prog 159 #[.string s, .int .i64 a] w (GetPost v i er w) := by
  unfold maxLen at hs
  have h2 : decide ((a : Int) < 0) = false := by simp
  go_enter Tryz.func159, Tryz.ntmps159
  go_wp2
  go_loopw [7, 8] (fun uu iv wr => ∃ (p k : Nat) (U : Int), k ≤ 9 ∧ p ≤ s.size ∧ p ≤ a + k ∧ a + k ≤ p ∧ iv = .int .i64 p ∧ uu = .int .u64 U ∧ 0 ≤ U ∧ Hid (U < p7 k) ∧ Hid (getR 0 0 ((nums s).drop a) = getR k U ((nums s).drop p)) ∧ Hid (∃ m, wr = w.drewN m)) (fun _ iv _ => s.size - (intOf iv).toNat)
  case atStart => exact ⟨a, 0, 0, by omega, h, by omega, by omega, rfl, rfl, by omega, by unfold Hid; decide, rfl, 0, rfl⟩
  case round =>
    obtain ⟨p, k, U, hk9, hps, hp1, hp2, rfl, rfl, hU0, hU, hR, hW⟩ := hrel
    by_cases hlt : p < s.size
    · have hnd := nums_drop s p hlt
      obtain ⟨b, hb⟩ : ∃ b : Int, (s[p].toNat : Int) = b := ⟨_, rfl⟩
      have hb0 : 0 ≤ b := by omega
      have hb1 : b ≤ 255 := by have := s[p].toNat_lt; omega
      have hR2 := hR.out
      rw [hnd, hb] at hR2
      have HR := Lib.hid hR2
      have hsub : IntKind.i64.wrap ((p : Int) - (a : Int)) = (k : Int) := by rw [IntWalk.i64_in _ (by omega)]; omega
      clear hnd hR hR2 h2
      go_upto_region 7 with (fail)
      go_quiet (fail)
      generalize hwq : World.drewN wr _ = wq
      have HW : Hid (∃ m, wq = w.drewN m) := by obtain ⟨m, hm⟩ := hW.out; exact ⟨m + _, by rw [← hwq, hm, World.drewN_drewN]⟩
      clear hwq hsub hb
      obtain ⟨c, hc⟩ : ∃ c, b % 128 = c := ⟨_, rfl⟩
      have hc0 : 0 ≤ c := by omega
      have hc1 : c ≤ 127 := by omega
      by_cases hA : k = 9 ∧ b ≠ 1
      · have hb1' : ((k : Int) == 9) = true := by simp; omega
        have hb2' : (b != 1) = true := by simp [hA.2]
        have hf := HR.out
        rw [getR_form (.inl hA) hb0 hk9] at hf
        have hE' := hE.out
        rw [getS_err h hf (by omega)] at hE'
        injection hE' with e1 e2
        injection e2 with e2 e3
        subst e1; subst e2; subst e3
        clear hA HR hf hc
        go_wp2
        go_ret3
        exact ⟨rfl, HW.out⟩
      · have hor : bits .or .u64 U (IntKind.u64.wrap (c * 2 ^ (7 * k))) = U + c * p7 k := or_step U c k hU0 hU.out hc0 hc1 hk9 (by omega)
        obtain ⟨V0, V1⟩ := acc_u hU0 hU.out hc0 hc1 hk9 (by omega)
        have hbd : U + c * p7 k < p7 (k + 1) := acc_bd hU.out hc1
        by_cases hB : 128 ≤ b
        · have hk : k ≠ 9 := by omega
          have hb1' : ((k : Int) == 9) = false := by simp; omega
          have hm := HR.out
          rw [getR_more hk hB, show b - 128 = c by omega] at hm
          obtain ⟨V, hV⟩ : ∃ V, U + c * p7 k = V := ⟨_, rfl⟩
          rw [hV] at hor V0 V1 hm hbd
          have HM := Lib.hid hm
          have HBD := Lib.hid hbd
          clear hA HR hm hbd hV V1
          go_wp2
          go_roundw
          case rel => exact ⟨p + 1, k + 1, V, by omega, by omega, by omega, by omega, by go_num, rfl, V0, HBD, HM, HW⟩
          case measure => simp [intOf]; omega
        · have hB2 : b < 128 := by omega
          have hbc : b % 128 = b := by omega
          obtain rfl : b = c := by omega
          by_cases hC : 0 < k ∧ b = 0
          · have hb1' : ((k : Int) == 9) = false := by simp; omega
            have hb2' : (b == 0) = true := by simp [hC.2]
            have hb3' : decide (0 < k) = true := by simp [hC.1]
            have hf := HR.out
            rw [getR_form (.inr hC) hb0 hk9] at hf
            have hE' := hE.out
            rw [getS_err h hf (by omega)] at hE'
            injection hE' with e1 e2
            injection e2 with e2 e3
            subst e1; subst e2; subst e3
            obtain ⟨hC1, hC2⟩ := hC
            obtain ⟨V, hV⟩ : ∃ V, U + b * p7 k = V := ⟨_, rfl⟩
            rw [hV] at hor
            clear hA HR hf hc hC2 V0 V1 hbd hV
            go_wp2
            go_ret3
            exact ⟨rfl, HW.out⟩
          · have hl := HR.out
            rw [getR_last hA hB2 hC hb0] at hl
            have hE' := hE.out
            rw [getS_ok h hl] at hE'
            injection hE' with e1 e2
            injection e2 with e2 e3
            subst e3
            have HI : Hid ((p : Int) + 1 = i) := by unfold Hid; omega
            obtain ⟨V, hV⟩ : ∃ V, U + b * p7 k = V := ⟨_, rfl⟩
            rw [hV] at hor V0 V1 e1
            have HZ := Lib.hid e1
            have hcase : (((k : Int) == 9) = false ∨ (((k : Int) == 9) = true ∧ (b != 1) = false)) ∧ ((b == 0) = false ∨ ((b == 0) = true ∧ decide (0 < k) = false)) := by
              constructor
              · by_cases h9 : k = 9
                · exact .inr ⟨by simp; omega, by simp; omega⟩
                · exact .inl (by simp; omega)
              · by_cases h0 : b = 0
                · exact .inr ⟨by simp [h0], by simp; omega⟩
                · exact .inl (by simp [h0])
            clear hA hC HR hl hc hbd hV e1 e2
            obtain ⟨hca, hcb⟩ := hcase
            rcases hca with hca | ⟨hca, hca2⟩ <;> rcases hcb with hcb | ⟨hcb, hcb2⟩
            all_goals
              go_wp2_with (go_at_call 163; refine (signed_at _ _ _ V0 V1 HZ).mono ?_; rintro e w1 ⟨rfl, rfl⟩)
              go_ret3
              rw [HI.out]
              exact ⟨rfl, HW.out⟩
    · obtain rfl : p = s.size := by omega
      have HE : Hid ((0, (a : Int), 5) = (v, i, er)) := by
        have h5 := hR.out
        have hd : (nums s).drop s.size = [] := List.drop_of_length_le (by rw [nums_length]; exact Nat.le_refl _)
        rw [hd] at h5
        unfold Hid
        rw [← hE.out, getS_err h h5 (by omega)]
      clear hR
      go_wp2
      have hE' := HE.out
      injection hE' with e1 e2
      injection e2 with e2 e3
      subst e1; subst e2; subst e3
      go_ret3
      exact ⟨rfl, hW.out⟩

theorem getInt_any (s : ByteArray) (a v i er : Int) (w : World) (hs : s.size ≤ maxLen) (hE : Hid (getS s a = (v, i, er))) :
    Calls Tryz.prog 159 #[.string s, .int .i64 a] w (GetPost v i er w) := by
  by_cases h : a < 0 ∨ (s.size : Int) < a
  · exact getInt_out s a v i er w hs h hE
  · obtain ⟨n, rfl⟩ : ∃ n : Nat, a = n := ⟨a.toNat, by omega⟩
    exact getInt_in s n v i er w hs (by omega) hE

end Go.Proofs.YtnnhcgflmhjakaaGreatDoor

namespace Go.Proofs.YtnnhcgflmhjakaaGreatDoor
open Go.RowKit

/-- Block g is a reader. -/
def Rd (w : World) (g : Nat) (s : ByteArray) (i er : Int) : Prop :=
  w.cell? ⟨g, 0, none⟩ = some (.string s) ∧ w.cell? ⟨g, 1, none⟩ = some (.int .i64 i) ∧ w.cell? ⟨g, 2, none⟩ = some (.int .i64 er) ∧ w.frozen? ⟨g, 1, none⟩ = false ∧ w.frozen? ⟨g, 2, none⟩ = false ∧ g < w.heap.size

theorem Rd.grown {w w' : World} {g : Nat} {s : ByteArray} {i er : Int} {row : Option Nat} (h : Rd w g s i er) (hg : w.grownBy w' row) (hne : row ≠ some g) : Rd w' g s i er := by
  obtain ⟨h1, h2, h3, h4, h5, h6⟩ := h
  exact ⟨hg.cell h1 (Ne.symm hne), hg.cell h2 (Ne.symm hne), hg.cell h3 (Ne.symm hne), (World.frozen?_of_block (hg.block g h6 (Ne.symm hne))).trans h4, (World.frozen?_of_block (hg.block g h6 (Ne.symm hne))).trans h5, Nat.lt_of_lt_of_le h6 hg.size⟩

theorem Rd.drewN {w : World} {g : Nat} {s : ByteArray} {i er : Int} (h : Rd w g s i er) (n : Nat) : Rd (w.drewN n) g s i er := h

theorem Rd.setNext {w : World} {g : Nat} {s : ByteArray} {i er : Int} (h : Rd w g s i er) (j : Int) : Rd (w.setCell ⟨g, 1, none⟩ (.int .i64 j)) g s j er := by
  obtain ⟨h1, h2, h3, h4, h5, h6⟩ := h
  exact ⟨(World.cell?_setCell_other _ _ _ _ (by simp)).trans h1, World.cell?_setCell_same _ _ _ h2, (World.cell?_setCell_other _ _ _ _ (by simp)).trans h3, (World.frozen?_setCell _ _ _ _).trans h4, (World.frozen?_setCell _ _ _ _).trans h5, by simpa [World.setCell] using h6⟩

theorem Rd.setErr {w : World} {g : Nat} {s : ByteArray} {i er : Int} (h : Rd w g s i er) (e : Int) : Rd (w.setCell ⟨g, 2, none⟩ (.int .i64 e)) g s i e := by
  obtain ⟨h1, h2, h3, h4, h5, h6⟩ := h
  exact ⟨(World.cell?_setCell_other _ _ _ _ (by simp)).trans h1, (World.cell?_setCell_other _ _ _ _ (by simp)).trans h2, World.cell?_setCell_same _ _ _ h3, (World.frozen?_setCell _ _ _ _).trans h4, (World.frozen?_setCell _ _ _ _).trans h5, by simpa [World.setCell] using h6⟩

theorem Rd.new (w : World) (s : ByteArray) (i er : Int) (ty : TypeId) : Rd (w.alloc (.cells #[.string s, .int .i64 i, .int .i64 er] ty)) w.heap.size s i er := by
  refine ⟨?_, ?_, ?_, ?_, ?_, ?_⟩ <;> simp [World.cell?_alloc_new]

/-- One number: its value, the next index, the error. -/
def numS (s : ByteArray) (i er least most : Int) : Int × Int × Int :=
  if er ≠ 0 then (0, i, er) else if (getS s i).2.2 ≠ 0 then (0, i, (getS s i).2.2) else if (getS s i).1 < least ∨ most < (getS s i).1 then (0, i, 4) else ((getS s i).1, (getS s i).2.1, 0)

/-- What number leaves. -/
def NumPost (g : Nat) (s : ByteArray) (v i er : Int) (w : World) (e : Ending) (w' : World) : Prop :=
  e = .returned (.int .i64 v) ∧ Rd w' g s i er ∧ w.grownBy w' (some g)

theorem rd_drewN (w : World) (n : Nat) (row : Option Nat) : w.grownBy (w.drewN n) row := ⟨rfl, rfl, rfl, Nat.le_refl _, fun _ _ _ => rfl⟩

theorem getInt_quiet (s : ByteArray) (a v i er : Int) (w : World) (hs : s.size ≤ maxLen) (hE : Hid (getS s a = (v, i, er))) :
    Calls Tryz.prog 159 #[.string s, .int .i64 a] w fun e w' => e = .returned (.tuple #[.int .i64 v, .int .i64 i, .int .i64 er]) ∧ ∃ m, w' = w.drewN m := getInt_any s a v i er w hs hE

theorem pk_grownBy_trans {w w1 w2 : World} {row : Option Nat} (h : w.grownBy w1 row) (k : w1.grownBy w2 row) : w.grownBy w2 row :=
  ⟨k.os.trans h.os, k.tape.trans h.tape, k.output.trans h.output, Nat.le_trans h.size k.size, fun i hi hne => (k.block i (Nat.lt_of_lt_of_le hi h.size) hne).trans (h.block i hi hne)⟩

set_option maxRecDepth 100000 in
set_option maxHeartbeats 2000000 in
theorem number_any (g : Nat) (s : ByteArray) (i er least most v j er' : Int) (w : World) (hs : s.size ≤ maxLen) (hr : Rd w g s i er) (hE : Hid (numS s i er least most = (v, j, er'))) :
    Calls Tryz.prog 162 #[.pointer (some ⟨g, 0, none⟩), .int .i64 least, .int .i64 most] w (NumPost g s v j er' w) := by
  have HR := Lib.hid hr
  have HS := Lib.hid hs
  obtain ⟨r0, r1, r2, r3, r4, r5⟩ := hr
  clear hs
  by_cases h0 : er = 0
  · subst h0
    obtain ⟨x, k, ge, hg⟩ : ∃ x k ge, getS s i = (x, k, ge) := ⟨_, _, _, rfl⟩
    have hE' := hE.out
    rw [numS, if_neg (by simp), hg] at hE'
    simp only at hE'
    have HG := Lib.hid hg
    clear hg
    have hd : ((0 : Int) != 0) = false := rfl
    by_cases h1 : ge = 0
    · subst h1
      rw [if_neg (by simp)] at hE'
      by_cases h2 : x < least
      · rw [if_pos (.inl h2)] at hE'
        injection hE' with e1 e2
        injection e2 with e2 e3
        subst e1; subst e2; subst e3
        go_enter Tryz.func162, Tryz.ntmps162
        go_wp2
        go_quiet ((go_at_call 159; exact Calls.quiet_of (getInt_quiet s i x k 0 _ HS.out HG)))
        go_wp2
        go_ret
        exact ⟨rfl, (HR.out.drewN _).setErr 4, pk_grownBy_trans (rd_drewN w _ _) (sp_grownBy_store _ g 2 _)⟩
      · have hd2 : decide (x < least) = false := decide_eq_false h2
        by_cases h3 : most < x
        · rw [if_pos (.inr h3)] at hE'
          injection hE' with e1 e2
          injection e2 with e2 e3
          subst e1; subst e2; subst e3
          clear h2
          go_enter Tryz.func162, Tryz.ntmps162
          go_wp2
          go_quiet ((go_at_call 159; exact Calls.quiet_of (getInt_quiet s i x k 0 _ HS.out HG)))
          go_wp2
          go_ret
          exact ⟨rfl, (HR.out.drewN _).setErr 4, pk_grownBy_trans (rd_drewN w _ _) (sp_grownBy_store _ g 2 _)⟩
        · have hd3 : decide (most < x) = false := decide_eq_false h3
          rw [if_neg (by omega)] at hE'
          injection hE' with e1 e2
          injection e2 with e2 e3
          subst e1; subst e2; subst e3
          clear h2 h3
          go_enter Tryz.func162, Tryz.ntmps162
          go_wp2
          go_quiet ((go_at_call 159; exact Calls.quiet_of (getInt_quiet s i x k 0 _ HS.out HG)))
          go_wp2
          go_ret
          exact ⟨rfl, (HR.out.drewN _).setNext k, pk_grownBy_trans (rd_drewN w _ _) (sp_grownBy_store _ g 1 _)⟩
    · have hd1 : (ge == 0) = false := by simp [h1]
      have hd2 : (ge != 0) = true := by simp [h1]
      rw [if_pos h1] at hE'
      injection hE' with e1 e2
      injection e2 with e2 e3
      subst e1; subst e2; subst e3
      clear h1
      go_enter Tryz.func162, Tryz.ntmps162
      go_wp2
      go_quiet ((go_at_call 159; exact Calls.quiet_of (getInt_quiet s i x k ge _ HS.out HG)))
      go_wp2
      go_ret
      exact ⟨rfl, (HR.out.drewN _).setErr ge, pk_grownBy_trans (rd_drewN w _ _) (sp_grownBy_store _ g 2 _)⟩
  · have hd : (er != 0) = true := by simp [h0]
    have hE' := hE.out
    rw [numS, if_pos h0] at hE'
    injection hE' with e1 e2
    injection e2 with e2 e3
    subst e1; subst e2; subst e3
    clear h0
    go_enter Tryz.func162, Tryz.ntmps162
    go_wp2
    go_ret
    exact ⟨rfl, HR.out, rd_drewN w 0 _⟩

end Go.Proofs.YtnnhcgflmhjakaaGreatDoor

namespace Go.Proofs.YtnnhcgflmhjakaaGreatDoor
open Go.RowKit

/-- The block that make lays for c ints. -/
def madeInts (c : Nat) : Obj := .cells (madeCells (Value.cells (.int .i64 0)) (c * 1)) 3

theorem run_make_ints (c : Nat) (hc : c ≤ 4194304) (w : World) :
    (Instr.makeSlice 22 (.int .i64 0) (.int .i64 (c : Int))).run Tryz.prog w = .ok (.slice (some ⟨w.heap.size, 0, none⟩) 0 c) (w.alloc (madeInts c)) := by
  obtain ⟨i0, hi, hz0, hz1, hz2⟩ := info_parts Tryz.info3
  have h := run_make_rowN (P := Tryz.prog) 22 3 i0 _ Tryz.underlying22 hi hz0 .i64 .i64 0 c (Nat.zero_le _) (by rw [hz2]; omega) (by omega) w
  rw [hz1] at h
  exact h

theorem Ints.pkMade (w : World) (B c : Nat) (hB : B ≤ w.heap.size) (hc : c ≤ 4194304) : Ints (w.alloc (madeInts c)) B (.slice (some ⟨w.heap.size, 0, none⟩) 0 c) [] := by
  unfold Ints madeInts
  exact World.ownsRow_made w _ c hB (by unfold maxLen; omega) (size_madeCells _ _)

theorem Ints.pkAlloc {w : World} {B : Nat} {v : Value} {l : List Int} (h : Ints w B v l) (o : Obj) : Ints (w.alloc o) B v l := World.ownsRow.alloc h o
theorem Ints.pkBase {w : World} {B : Nat} {v : Value} {l : List Int} (h : Ints w B v l) : ∀ k, v.ownBlock = some k → B ≤ k := fun k hk => (World.ownsRow.lt h k hk).1
theorem Ints.kept {w w' : World} {B : Nat} {v : Value} {l : List Int} {row : Option Nat} (h : Ints w B v l) (hg : w.grownBy w' row) (hr : ∀ k, row = some k → k < B) : Ints w' B v l := by
  refine World.ownsRow.kept h hg ?_
  cases e : v.ownBlock with
  | none => exact .inl rfl
  | some k =>
    refine .inr fun h2 => ?_
    have h3 := h.pkBase k e
    have h4 := hr k h2.symm
    omega

/-- The first number of a list: how many there are. -/
theorem list_head {s : ByteArray} {a v i er : Int} (h : numS s a 0 0 4096 = (v, i, er)) :
    (er ≠ 0 → v = 0 ∧ getListS s a = ([], a, er)) ∧ (er = 0 → 0 ≤ v ∧ v ≤ 4096 ∧ getListS s a = getLF s a v.toNat i 0 []) := by
  rw [numS, if_neg (by simp)] at h
  rw [getListS]
  by_cases h1 : (getS s a).2.2 ≠ 0
  · rw [if_pos h1] at h ⊢
    injection h with e1 e2
    injection e2 with e2 e3
    exact ⟨fun _ => ⟨e1.symm, by rw [e3]⟩, fun h0 => absurd (e3.trans h0) h1⟩
  · rw [if_neg h1] at h ⊢
    by_cases h2 : (getS s a).1 < 0 ∨ 4096 < (getS s a).1
    · rw [if_pos h2] at h ⊢
      injection h with e1 e2
      injection e2 with e2 e3
      exact ⟨fun _ => ⟨e1.symm, by rw [← e3]⟩, fun h0 => by omega⟩
    · rw [if_neg h2] at h ⊢
      injection h with e1 e2
      injection e2 with e2 e3
      exact ⟨fun h0 => absurd e3.symm h0, fun _ => ⟨by omega, by omega, by rw [e1, e2]⟩⟩

/-- One more element. -/
theorem list_step {s : ByteArray} {a i last v j er : Int} {m : Nat} {out : List Int} (hl : -1073741824 ≤ last ∧ last ≤ 1073741824) (h : numS s i 0 (-1073741824 - last) (1073741824 - last) = (v, j, er)) :
    (er ≠ 0 → v = 0 ∧ getLF s a (m + 1) i last out = ([], a, er)) ∧ (er = 0 → -1073741824 ≤ last + v ∧ last + v ≤ 1073741824 ∧ getLF s a (m + 1) i last out = getLF s a m j (last + v) (out ++ [last + v])) := by
  rw [numS, if_neg (by simp)] at h
  rw [getLF]
  by_cases h1 : (getS s i).2.2 ≠ 0
  · rw [if_pos h1] at h ⊢
    injection h with e1 e2
    injection e2 with e2 e3
    exact ⟨fun _ => ⟨e1.symm, by rw [e3]⟩, fun h0 => absurd (e3.trans h0) h1⟩
  · rw [if_neg h1] at h ⊢
    by_cases h2 : (getS s i).1 < -1073741824 - last ∨ 1073741824 - last < (getS s i).1
    · have hm : modB (last + (getS s i).1) = false := by
        rw [← Bool.not_eq_true, modB_iff]; omega
      rw [if_pos h2] at h
      rw [if_pos (.inr (.inr hm))]
      injection h with e1 e2
      injection e2 with e2 e3
      exact ⟨fun _ => ⟨e1.symm, by rw [← e3]⟩, fun h0 => by omega⟩
    · have hm : modB (last + (getS s i).1) = true := by rw [modB_iff]; omega
      rw [if_neg h2] at h
      rw [if_neg (by rw [hm]; simp; omega)]
      injection h with e1 e2
      injection e2 with e2 e3
      exact ⟨fun h0 => absurd e3.symm h0, fun _ => ⟨by omega, by omega, by rw [e1, e2]⟩⟩

/-- A new slice of ints, an index and an error, named. -/
def RetL (L : List Int) (i er : Int) (w : World) (e : Ending) (w' : World) : Prop :=
  ∃ p c, e = .returned (.tuple #[.slice p L.length c, .int .i64 i, .int .i64 er]) ∧ Hid (IntsIn w' p L) ∧ Below w.heap.size w w'

/-- The same: the slice is the call's own. -/
def RetO (L : List Int) (i er : Int) (w : World) (e : Ending) (w' : World) : Prop :=
  ∃ v, e = .returned (.tuple #[v, .int .i64 i, .int .i64 er]) ∧ Hid (Ints w' w.heap.size v L) ∧ Below w.heap.size w w'

theorem RetO.of {v : Value} {L : List Int} {i er : Int} {w w' : World} {B : Nat} (hB : w.heap.size ≤ B) (h : Ints w' B v L) (hb : Below w.heap.size w w') : RetO L i er w (.returned (.tuple #[v, .int .i64 i, .int .i64 er])) w' :=
  ⟨v, rfl, ownsRow_mono h hB, hb⟩

theorem RetO.toL {L : List Int} {i er : Int} {w : World} {e : Ending} {w' : World} (h : RetO L i er w e w') : RetL L i er w e w' := by
  obtain ⟨v, rfl, h1, h2⟩ := h
  obtain ⟨p, c, rfl, hi⟩ := h1.out.inn
  exact ⟨p, c, rfl, hi, h2⟩

theorem RetL.of {v : Value} {L : List Int} {i er : Int} {w w' : World} {B : Nat} (h : Ints w' B v L) (hb : Below w.heap.size w w') : RetL L i er w (.returned (.tuple #[v, .int .i64 i, .int .i64 er])) w' := by
  obtain ⟨p, c, rfl, hi⟩ := h.inn
  exact ⟨p, c, rfl, hi, hb⟩

theorem pk_below_drewN {B : Nat} {a w : World} (h : Below B a w) (n : Nat) : Below B a (w.drewN n) := ⟨h.os, h.tape, h.output, h.size, h.block⟩

set_option maxRecDepth 100000 in
set_option maxHeartbeats 4000000 in
theorem getList_own (s : ByteArray) (a : Int) (L : List Int) (i er : Int) (w : World) (hs : s.size ≤ maxLen) (hE : Hid (getListS s a = (L, i, er))) :
    Calls Tryz.prog 157 #[.string s, .int .i64 a] w (RetO L i er w) := by
  have HS := Lib.hid hs
  clear hs
  obtain ⟨v, j, e1, hn⟩ : ∃ v j e1, numS s a 0 0 4096 = (v, j, e1) := ⟨_, _, _, rfl⟩
  obtain ⟨hh1, hh2⟩ := list_head hn
  have HN := Lib.hid hn
  have HR0 := Lib.hid (Rd.new w s a 0 152)
  have HB0 := Lib.hid ((Below.refl w.heap.size w).alloc (Nat.le_refl _) (.cells #[.string s, .int .i64 a, .int .i64 0] 152))
  clear hn
  obtain ⟨n, hv⟩ : ∃ n : Nat, v = n := ⟨v.toNat, by
    by_cases h : e1 = 0
    · have := hh2 h; omega
    · have := hh1 h; omega⟩
  subst hv
  have hn2 : n ≤ 4096 := by
    by_cases h : e1 = 0
    · have := hh2 h; omega
    · have := hh1 h; omega
  have hmk := run_make_ints n (by omega)
  obtain ⟨i0, hi, hz0, hz1, hz2⟩ := info_parts Tryz.info3
  have HH1 := Lib.hid hh1
  have HH2 := Lib.hid hh2
  clear hh1 hh2
  go_enter Tryz.func157, Tryz.ntmps157
  go_wp2_with fail
  refine (number_any w.heap.size s a 0 0 4096 n j e1 _ HS.out HR0.out HN).mono ?_
  rintro e w1 ⟨rfl, hr1, hg1⟩
  have HR1 := Lib.hid (hr1.grown (World.grownBy_alloc w1 (madeInts n) none) (by simp))
  have HB1 := Lib.hid ((HB0.out.grown hg1 HB0.out.size (by rintro k ⟨⟩; exact Nat.le_refl _)).alloc ((HB0.out.grown hg1 HB0.out.size (by rintro k ⟨⟩; exact Nat.le_refl _)).size) (madeInts n))
  have HO1 := Lib.hid (Ints.pkMade w1 (w.heap.size + 1) n hr1.2.2.2.2.2 (by omega))
  have HE0 : Hid (e1 = 0 → getLF s a (n - 0) j 0 [] = (L, i, er)) := by
    intro h
    have := (HH2.out h).2.2
    rw [← hE.out, this]; rfl
  have HX : Hid (e1 ≠ 0 → n = 0 ∧ (([] : List Int), a, e1) = (L, i, er)) := by
    intro h
    have := HH1.out h
    exact ⟨by omega, by rw [← hE.out, this.2]⟩
  have HG : Hid (w1.heap.size < (w1.alloc (madeInts n)).heap.size) := by unfold Hid; simp
  clear hr1 hg1 HH1 HH2
  go_wp2
  go_loopw [9, 10, 18] (fun vv lv iv wr => ∃ (k : Nat) (last j : Int) (out : List Int), k ≤ n ∧ iv = .int .i64 k ∧ lv = .int .i64 last ∧ -1073741824 ≤ last ∧ last ≤ 1073741824 ∧ out.length ≤ k ∧ Hid (e1 = 0 → getLF s a (n - k) j last out = (L, i, er)) ∧ Hid (Rd wr w.heap.size s j e1) ∧ Hid (Ints wr (w.heap.size + 1) vv out) ∧ Hid (Below w.heap.size w wr)) (fun _ _ iv _ => n - (intOf iv).toNat)
  case atStart => exact ⟨0, 0, j, [], Nat.zero_le _, rfl, rfl, by omega, by omega, Nat.zero_le _, HE0, HR1, HO1, HB1⟩
  case round =>
    clear HE0 HR1 HO1 HB1 HG hmk
    obtain ⟨k, last, j, out, hk, rfl, rfl, hl0, hl1, hol, hEq, hr, ho, hbel⟩ := hrel
    by_cases hlt : k < n
    · have h0 : e1 = 0 := by
        by_cases h : e1 = 0
        · exact h
        · have := (HX.out h).1; omega
      subst h0
      obtain ⟨m, hm⟩ : ∃ m, n - k = m + 1 := ⟨n - k - 1, by omega⟩
      obtain ⟨v, j2, e2, hnum⟩ : ∃ v j2 e2, numS s j 0 (-1073741824 - last) (1073741824 - last) = (v, j2, e2) := ⟨_, _, _, rfl⟩
      obtain ⟨st1, st2⟩ := list_step (a := a) (m := m) (out := out) ⟨hl0, hl1⟩ hnum
      have hEq2 := hEq.out rfl
      rw [hm] at hEq2
      have HNUM := Lib.hid hnum
      have HM := Lib.hid hm
      clear hnum hm hEq
      by_cases he : e2 = 0
      · obtain ⟨b0, b1, st⟩ := st2 he
        rw [st] at hEq2
        subst he
        have HQ : Hid (getLF s a (n - (k + 1)) j2 (last + v) (out ++ [last + v]) = (L, i, er)) := by
          have := HM.out
          unfold Hid; rw [show n - (k + 1) = m by omega]; exact hEq2
        clear st st1 st2 hEq2
        go_wp2_with fail
        refine (number_any w.heap.size s j 0 _ _ v j2 0 _ HS.out hr.out HNUM).mono ?_
        rintro e w2 ⟨rfl, hr2, hg2⟩
        have HR2 := Lib.hid hr2
        have HO2 := Lib.hid (ho.out.kept hg2 (by rintro k ⟨⟩; omega))
        have HB2 := Lib.hid (hbel.out.grown hg2 hbel.out.size (by rintro k ⟨⟩; exact Nat.le_refl _))
        clear hr2 hg2
        have HF2 := Lib.hid (Nat.succ_le_of_lt HR2.out.2.2.2.2.2)
        obtain ⟨c0, c1, c2, f1, f2, f3⟩ := HR2.out
        go_wp2_with (at_builtin; refine wpList_append_own _ rfl _ _ 22 rfl (w.heap.size + 1) 3 i0 (.int .i64 0) 1 8 Tryz.underlying22 hi hz0 hz1 hz2 rfl (by decide) _ _ _ rfl (HO2.out.pkAlloc _) ⟨w2.heap.size, 0, none⟩ 1 1 [.int .i64 (last + v)] rfl rfl (cell_one_new _ _ _) ?c2 ?c3 ?c4 ?c5 ?_)
        case c2 => intro u hu; simp at hu; subst hu; rfl
        case c3 => unfold maxLen; omega
        case c4 => omega
        case c5 => have := HF2.out; simp; omega
        intro v3 w3 hown3 hg3 _
        have HO3 : Hid (Ints w3 (w.heap.size + 1) v3 (out ++ [last + v])) := by unfold Hid Ints; simpa using hown3
        have HR3 := Lib.hid ((HR2.out.grown (World.grownBy_alloc w2 (.cells #[.int .i64 (last + v)] 3) none) (by simp)).grown hg3 (fun e => by have := HO2.out.pkBase _ e; omega))
        have HB3 := Lib.hid ((HB2.out.alloc HB2.out.size (.cells #[.int .i64 (last + v)] 3)).grown hg3 (by have := HB2.out.size; simp; omega) (fun k hk => by have := HO2.out.pkBase k hk; omega))
        clear hown3 hg3 c0 c1 c2 f1 f2 f3
        go_wp2
        go_roundw
        case rel => exact ⟨k + 1, last + v, j2, out ++ [last + v], by omega, by go_num, rfl, by omega, by omega, by simp; omega, fun _ => HQ.out, HR3, HO3, HB3⟩
        case measure => simp [intOf]; omega
      · obtain ⟨b0, st⟩ := st1 he
        rw [st] at hEq2
        injection hEq2 with x1 x2
        injection x2 with x2 x3
        subst x1; subst x2; subst x3; subst b0
        have hd : (e2 != 0) = true := by simp [he]
        clear st st1 st2 he
        go_wp2_with fail
        refine (number_any w.heap.size s j 0 _ _ 0 j2 e2 _ HS.out hr.out HNUM).mono ?_
        rintro e w2 ⟨rfl, hr2, hg2⟩
        have HR2 := Lib.hid hr2
        have HB2 := Lib.hid (hbel.out.grown hg2 hbel.out.size (by rintro k ⟨⟩; exact Nat.le_refl _))
        clear hr2 hg2
        obtain ⟨c0, c1, c2, f1, f2, f3⟩ := HR2.out
        go_wp2
        go_quiet (fail)
        go_wp2
        go_ret3
        exact RetO.of (Nat.le_refl _) (Ints.nil _ _) (pk_below_drewN HB2.out _)
    · obtain rfl : k = n := by omega
      obtain ⟨c0, c1, c2, f1, f2, f3⟩ := hr.out
      by_cases h0 : e1 = 0
      · have hEq2 := hEq.out h0
        rw [Nat.sub_self, getLF] at hEq2
        injection hEq2 with x1 x2
        injection x2 with x2 x3
        subst x1; subst x2; subst x3
        subst h0
        have hd : ((0 : Int) != 0) = false := rfl
        clear hEq
        go_wp2
        go_quiet (fail)
        go_wp2
        go_ret3
        exact RetO.of (B := w.heap.size + 1) (Nat.le_succ _) ho.out (pk_below_drewN hbel.out _)
      · have hEq2 := (HX.out h0).2
        injection hEq2 with x1 x2
        injection x2 with x2 x3
        subst x1; subst x2; subst x3
        have hd : (e1 != 0) = true := by simp [h0]
        clear hEq h0
        go_wp2
        go_quiet (fail)
        go_wp2
        go_ret3
        exact RetO.of (Nat.le_refl _) (Ints.nil _ _) (pk_below_drewN hbel.out _)

theorem getList_any (s : ByteArray) (a : Int) (L : List Int) (i er : Int) (w : World) (hs : s.size ≤ maxLen) (hE : Hid (getListS s a = (L, i, er))) :
    Calls Tryz.prog 157 #[.string s, .int .i64 a] w (RetL L i er w) :=
  (getList_own s a L i er w hs hE).mono fun _ _ h => h.toL

end Go.Proofs.YtnnhcgflmhjakaaGreatDoor

namespace Go.Proofs.YtnnhcgflmhjakaaGreatDoor
open Go.RowKit

/-- What a number may be. -/
theorem numS_bd {s : ByteArray} {i er least most v j er' : Int} (h : numS s i er least most = (v, j, er')) : (er' = 0 → er = 0 ∧ least ≤ v ∧ v ≤ most) ∧ (er' ≠ 0 → v = 0) := by
  rw [numS] at h
  by_cases h0 : er ≠ 0
  · rw [if_pos h0] at h
    injection h with e1 e2
    injection e2 with e2 e3
    exact ⟨fun h => absurd (e3.trans h) h0, fun _ => e1.symm⟩
  · rw [if_neg h0] at h
    by_cases h1 : (getS s i).2.2 ≠ 0
    · rw [if_pos h1] at h
      injection h with e1 e2
      injection e2 with e2 e3
      exact ⟨fun h => absurd (e3.trans h) h1, fun _ => e1.symm⟩
    · rw [if_neg h1] at h
      by_cases h2 : (getS s i).1 < least ∨ most < (getS s i).1
      · rw [if_pos h2] at h
        injection h with e1 e2
        injection e2 with e2 e3
        exact ⟨fun h => by omega, fun _ => e1.symm⟩
      · rw [if_neg h2] at h
        injection h with e1 e2
        injection e2 with e2 e3
        exact ⟨fun _ => ⟨by omega, by omega, by omega⟩, fun h => absurd e3.symm h⟩

/-- A reader with an error answers nothing more. -/
theorem numS_stay {s : ByteArray} {i er least most v j er' : Int} (h0 : er ≠ 0) (h : numS s i er least most = (v, j, er')) : v = 0 ∧ j = i ∧ er' = er := by
  rw [numS, if_pos h0] at h
  injection h with e1 e2
  injection e2 with e2 e3
  exact ⟨e1.symm, e2.symm, e3.symm⟩

/-- The first number of a list of spans. -/
theorem spans_head {s : ByteArray} {a v i er : Int} (h : numS s a 0 0 256 = (v, i, er)) :
    (er ≠ 0 → v = 0 ∧ getSpansS s a = ([], a, er)) ∧ (er = 0 → 0 ≤ v ∧ v ≤ 256 ∧ getSpansS s a = getSF s a v.toNat true i 0 []) := by
  rw [numS, if_neg (by simp)] at h
  rw [getSpansS]
  by_cases h1 : (getS s a).2.2 ≠ 0
  · rw [if_pos h1] at h ⊢
    injection h with e1 e2
    injection e2 with e2 e3
    exact ⟨fun _ => ⟨e1.symm, by rw [e3]⟩, fun h0 => absurd (e3.trans h0) h1⟩
  · rw [if_neg h1] at h ⊢
    by_cases h2 : (getS s a).1 < 0 ∨ 256 < (getS s a).1
    · rw [if_pos h2] at h ⊢
      injection h with e1 e2
      injection e2 with e2 e3
      exact ⟨fun _ => ⟨e1.symm, by rw [← e3]⟩, fun h0 => by omega⟩
    · rw [if_neg h2] at h ⊢
      injection h with e1 e2
      injection e2 with e2 e3
      exact ⟨fun h0 => absurd e3.symm h0, fun _ => ⟨by omega, by omega, by rw [e1, e2]⟩⟩

def gapS (first : Bool) : Int := if first = true then 0 else 1

/-- One more span. -/
theorem span_step {s : ByteArray} {a i last x j1 e1 y j2 e2 z j3 e3 : Int} {m : Nat} {first : Bool} {out : List Sp} (hx : numS s i 0 (gapS first) (1114111 - last) = (x, j1, e1))
    (hy : numS s j1 e1 0 (1114111 - (last + x)) = (y, j2, e2)) (hz : numS s j2 e2 (-1073741824) 1073741824 = (z, j3, e3)) :
    (e3 ≠ 0 → getSF s a (m + 1) first i last out = ([], a, e3)) ∧ (e3 = 0 → getSF s a (m + 1) first i last out = getSF s a m false j3 (last + x + y) (out ++ [(last + x, last + x + y, z)])) := by
  rw [getSF]
  simp only
  rw [numS, if_neg (by simp)] at hx
  by_cases h1 : (getS s i).2.2 ≠ 0
  · rw [if_pos h1] at hx ⊢
    injection hx with f1 f2
    injection f2 with f2 f3
    have g1 := numS_stay (by rw [← f3]; exact h1) hy
    have g2 := numS_stay (by rw [g1.2.2, ← f3]; exact h1) hz
    have : e3 = (getS s i).2.2 := by rw [g2.2.2, g1.2.2, f3]
    exact ⟨fun _ => by rw [this], fun h => absurd (this.symm.trans h) h1⟩
  · rw [if_neg h1] at hx ⊢
    by_cases h2 : (getS s i).1 < gapS first ∨ 1114111 - last < (getS s i).1
    · have h2' : (getS s i).1 < 0 ∨ 1114111 - last < (getS s i).1 ∨ (first = false ∧ (getS s i).1 = 0) := by
        unfold gapS at h2
        cases first
        · simp at h2; rcases h2 with h2 | h2
          · by_cases h0 : (getS s i).1 = 0
            · exact .inr (.inr ⟨rfl, h0⟩)
            · exact .inl (by omega)
          · exact .inr (.inl h2)
        · simp at h2; rcases h2 with h2 | h2
          · exact .inl h2
          · exact .inr (.inl h2)
      rw [if_pos h2] at hx
      rw [if_pos h2']
      injection hx with f1 f2
      injection f2 with f2 f3
      have g1 := numS_stay (by omega) hy
      have g2 := numS_stay (by omega) hz
      have : e3 = 4 := by omega
      exact ⟨fun _ => by rw [this], fun h => by omega⟩
    · have h2' : ¬ ((getS s i).1 < 0 ∨ 1114111 - last < (getS s i).1 ∨ (first = false ∧ (getS s i).1 = 0)) := by
        unfold gapS at h2
        cases first
        · simp at h2; rintro (h | h | ⟨_, h⟩) <;> omega
        · simp at h2; rintro (h | h | ⟨h, _⟩)
          · omega
          · omega
          · cases h
      rw [if_neg h2] at hx
      rw [if_neg h2']
      injection hx with f1 f2
      injection f2 with f2 f3
      rw [f1, f2]
      subst f3
      rw [numS, if_neg (by simp)] at hy
      by_cases h3 : (getS s j1).2.2 ≠ 0
      · rw [if_pos h3] at hy ⊢
        injection hy with f1 f2
        injection f2 with f2 f3
        have g2 := numS_stay (by rw [← f3]; exact h3) hz
        have : e3 = (getS s j1).2.2 := by rw [g2.2.2, f3]
        exact ⟨fun _ => by rw [this], fun h => absurd (this.symm.trans h) h3⟩
      · rw [if_neg h3] at hy ⊢
        by_cases h4 : (getS s j1).1 < 0 ∨ 1114111 - (last + x) < (getS s j1).1
        · rw [if_pos h4] at hy ⊢
          injection hy with f1 f2
          injection f2 with f2 f3
          have g2 := numS_stay (by omega) hz
          have : e3 = 4 := by omega
          exact ⟨fun _ => by rw [this], fun h => by omega⟩
        · rw [if_neg h4] at hy ⊢
          injection hy with f1 f2
          injection f2 with f2 f3
          rw [f1, f2]
          subst f3
          rw [numS, if_neg (by simp)] at hz
          by_cases h5 : (getS s j2).2.2 ≠ 0
          · rw [if_pos h5] at hz ⊢
            injection hz with f1 f2
            injection f2 with f2 f3
            exact ⟨fun _ => by rw [f3], fun h => absurd (f3.trans h) h5⟩
          · rw [if_neg h5] at hz ⊢
            by_cases h6 : (getS s j2).1 < -1073741824 ∨ 1073741824 < (getS s j2).1
            · have hm : modB (getS s j2).1 = false := by rw [← Bool.not_eq_true, modB_iff]; omega
              rw [if_pos h6] at hz
              rw [if_pos hm]
              injection hz with f1 f2
              injection f2 with f2 f3
              exact ⟨fun _ => by rw [← f3], fun h => by omega⟩
            · have hm : modB (getS s j2).1 = true := by rw [modB_iff]; omega
              rw [if_neg h6] at hz
              rw [if_neg (by rw [hm]; simp)]
              injection hz with f1 f2
              injection f2 with f2 f3
              exact ⟨fun h => absurd f3.symm h, fun _ => by rw [f1, f2]⟩

/-- A new slice of spans, an index and an error, named. -/
def RetS (L : List Sp) (i er : Int) (w : World) (e : Ending) (w' : World) : Prop :=
  ∃ p c, e = .returned (.tuple #[.slice p L.length c, .int .i64 i, .int .i64 er]) ∧ Hid (SpIn w' p L) ∧ Below w.heap.size w w'

/-- The same: the slice is the call's own. -/
def RetT (L : List Sp) (i er : Int) (w : World) (e : Ending) (w' : World) : Prop :=
  ∃ v, e = .returned (.tuple #[v, .int .i64 i, .int .i64 er]) ∧ Hid (Spans w' w.heap.size v L) ∧ Below w.heap.size w w'

theorem RetT.of {v : Value} {L : List Sp} {i er : Int} {w w' : World} {B : Nat} (hB : w.heap.size ≤ B) (h : Spans w' B v L) (hb : Below w.heap.size w w') : RetT L i er w (.returned (.tuple #[v, .int .i64 i, .int .i64 er])) w' :=
  ⟨v, rfl, ownsRow_mono h hB, hb⟩

theorem RetT.toS {L : List Sp} {i er : Int} {w : World} {e : Ending} {w' : World} (h : RetT L i er w e w') : RetS L i er w e w' := by
  obtain ⟨v, rfl, h1, h2⟩ := h
  obtain ⟨p, c, rfl, hi⟩ := h1.out.inn
  exact ⟨p, c, rfl, hi, h2⟩

theorem RetS.of {v : Value} {L : List Sp} {i er : Int} {w w' : World} {B : Nat} (h : Spans w' B v L) (hb : Below w.heap.size w w') : RetS L i er w (.returned (.tuple #[v, .int .i64 i, .int .i64 er])) w' := by
  obtain ⟨p, c, rfl, hi⟩ := h.inn
  exact ⟨p, c, rfl, hi, hb⟩

theorem Spans.kept {w w' : World} {B : Nat} {v : Value} {l : List Sp} {row : Option Nat} (h : Spans w B v l) (hg : w.grownBy w' row) (hr : ∀ k, row = some k → k < B) : Spans w' B v l := by
  refine World.ownsRow.kept h hg ?_
  cases e : v.ownBlock with
  | none => exact .inl rfl
  | some k =>
    refine .inr fun h2 => ?_
    have h3 := h.base k e
    have h4 := hr k h2.symm
    omega

set_option maxRecDepth 100000 in
set_option maxHeartbeats 4000000 in
theorem getSpans_own (s : ByteArray) (a : Int) (L : List Sp) (i er : Int) (w : World) (hs : s.size ≤ maxLen) (hE : Hid (getSpansS s a = (L, i, er))) :
    Calls Tryz.prog 155 #[.string s, .int .i64 a] w (RetT L i er w) := by
  have HS := Lib.hid hs
  clear hs
  obtain ⟨v, j, e1, hn⟩ : ∃ v j e1, numS s a 0 0 256 = (v, j, e1) := ⟨_, _, _, rfl⟩
  obtain ⟨hh1, hh2⟩ := spans_head hn
  have HN := Lib.hid hn
  have HR0 := Lib.hid (Rd.new w s a 0 152)
  have HB0 := Lib.hid ((Below.refl w.heap.size w).alloc (Nat.le_refl _) (.cells #[.string s, .int .i64 a, .int .i64 0] 152))
  clear hn
  obtain ⟨n, hv⟩ : ∃ n : Nat, v = n := ⟨v.toNat, by
    by_cases h : e1 = 0
    · have := hh2 h; omega
    · have := hh1 h; omega⟩
  subst hv
  have hn2 : n ≤ 256 := by
    by_cases h : e1 = 0
    · have := hh2 h; omega
    · have := hh1 h; omega
  have hmk := run_make_spans n (by omega)
  have HH1 := Lib.hid hh1
  have HH2 := Lib.hid hh2
  clear hh1 hh2
  go_enter Tryz.func155, Tryz.ntmps155
  go_wp2_with fail
  refine (number_any w.heap.size s a 0 0 256 n j e1 _ HS.out HR0.out HN).mono ?_
  rintro e w1 ⟨rfl, hr1, hg1⟩
  have HR1 := Lib.hid (hr1.grown (World.grownBy_alloc w1 (madeSp n) none) (by simp))
  have HB1 := Lib.hid ((HB0.out.grown hg1 HB0.out.size (by rintro k ⟨⟩; exact Nat.le_refl _)).alloc ((HB0.out.grown hg1 HB0.out.size (by rintro k ⟨⟩; exact Nat.le_refl _)).size) (madeSp n))
  have HO1 := Lib.hid (Spans.made w1 (w.heap.size + 1) n hr1.2.2.2.2.2 (by omega))
  have HE0 : Hid (e1 = 0 → getSF s a (n - 0) true j 0 [] = (L, i, er)) := by
    intro h
    have := (HH2.out h).2.2
    rw [← hE.out, this]; rfl
  have HX : Hid (e1 ≠ 0 → n = 0 ∧ (([] : List Sp), a, e1) = (L, i, er)) := by
    intro h
    have := HH1.out h
    exact ⟨by omega, by rw [← hE.out, this.2]⟩
  clear hr1 hg1 HH1 HH2
  go_wp2
  go_loopw [9, 10, 11, 22] (fun vv lv gv iv wr => ∃ (k : Nat) (last j gap : Int) (first : Bool) (out : List Sp), k ≤ n ∧ iv = .int .i64 k ∧ lv = .int .i64 last ∧ gv = .int .i64 gap ∧ Hid (gapS first = gap) ∧ 0 ≤ last ∧ last ≤ 1114111 ∧ 0 ≤ gap ∧ out.length ≤ k ∧ Hid (e1 = 0 → getSF s a (n - k) first j last out = (L, i, er)) ∧ Hid (Rd wr w.heap.size s j e1) ∧ Hid (Spans wr (w.heap.size + 1) vv out) ∧ Hid (Below w.heap.size w wr)) (fun _ _ _ iv _ => n - (intOf iv).toNat)
  case atStart => exact ⟨0, 0, j, 0, true, [], Nat.zero_le _, rfl, rfl, rfl, rfl, by omega, by omega, by omega, Nat.zero_le _, HE0, HR1, HO1, HB1⟩
  case round =>
    clear HE0 HR1 HO1 HB1 hmk
    obtain ⟨k, last, j, gap, first, out, hk, rfl, rfl, rfl, hgap, hl0, hl1, hg0, hol, hEq, hr, ho, hbel⟩ := hrel
    by_cases hlt : k < n
    · have h0 : e1 = 0 := by
        by_cases h : e1 = 0
        · exact h
        · have := (HX.out h).1; omega
      subst h0
      obtain ⟨m, hm⟩ : ∃ m, n - k = m + 1 := ⟨n - k - 1, by omega⟩
      obtain ⟨x, j1, d1, hx⟩ : ∃ x j1 d1, numS s j 0 gap (1114111 - last) = (x, j1, d1) := ⟨_, _, _, rfl⟩
      obtain ⟨y, j2, d2, hy⟩ : ∃ y j2 d2, numS s j1 d1 0 (1114111 - (last + x)) = (y, j2, d2) := ⟨_, _, _, rfl⟩
      obtain ⟨z, j3, d3, hz⟩ : ∃ z j3 d3, numS s j2 d2 (-1073741824) 1073741824 = (z, j3, d3) := ⟨_, _, _, rfl⟩
      obtain ⟨st1, st2⟩ := span_step (a := a) (m := m) (first := first) (out := out) (by rw [hgap.out]; exact hx) hy hz
      have hEq2 := hEq.out rfl
      rw [hm] at hEq2
      have hbx := numS_bd hx
      have hby := numS_bd hy
      have hbz := numS_bd hz
      have hx0 : 0 ≤ x ∧ last + x ≤ 1114111 := by
        by_cases h : d1 = 0
        · have := hbx.1 h; omega
        · have := hbx.2 h; omega
      have hy0 : 0 ≤ y ∧ last + x + y ≤ 1114111 := by
        by_cases h : d2 = 0
        · have := hby.1 h; omega
        · have := hby.2 h; omega
      obtain ⟨hx0, hx1⟩ := hx0
      obtain ⟨hy0, hy1⟩ := hy0
      have HNX := Lib.hid hx
      have HNY := Lib.hid hy
      have HNZ := Lib.hid hz
      have HM := Lib.hid hm
      have HBZ := Lib.hid hbz
      clear hx hy hz hm hEq hbx hby hbz
      by_cases he : d3 = 0
      · have st := st2 he
        rw [st] at hEq2
        subst he
        have HQ : Hid (getSF s a (n - (k + 1)) false j3 (last + x + y) (out ++ [(last + x, last + x + y, z)]) = (L, i, er)) := by
          have := HM.out
          unfold Hid; rw [show n - (k + 1) = m by omega]; exact hEq2
        clear st st1 st2 hEq2
        go_wp2_with fail
        refine (number_any w.heap.size s j 0 _ _ x j1 d1 _ HS.out hr.out HNX).mono ?_
        rintro e w2 ⟨rfl, hr2, hg2⟩
        have HR2 := Lib.hid hr2
        have HO2 := Lib.hid (ho.out.kept hg2 (by rintro k ⟨⟩; omega))
        have HB2 := Lib.hid (hbel.out.grown hg2 hbel.out.size (by rintro k ⟨⟩; exact Nat.le_refl _))
        clear hr2 hg2
        go_wp2_with fail
        refine (number_any w.heap.size s j1 d1 _ _ y j2 d2 _ HS.out HR2.out HNY).mono ?_
        rintro e w3 ⟨rfl, hr3, hg3⟩
        have HR3 := Lib.hid hr3
        have HO3 := Lib.hid (HO2.out.kept hg3 (by rintro k ⟨⟩; omega))
        have HB3 := Lib.hid (HB2.out.grown hg3 HB2.out.size (by rintro k ⟨⟩; exact Nat.le_refl _))
        clear hr3 hg3 HR2 HO2 HB2
        go_wp2_with fail
        refine (number_any w.heap.size s j2 d2 _ _ z j3 0 _ HS.out HR3.out HNZ).mono ?_
        rintro e w4 ⟨rfl, hr4, hg4⟩
        have HR4 := Lib.hid hr4
        have HO4 := Lib.hid (HO3.out.kept hg4 (by rintro k ⟨⟩; omega))
        have HB4 := Lib.hid (HB3.out.grown hg4 HB3.out.size (by rintro k ⟨⟩; exact Nat.le_refl _))
        have HF4 := Lib.hid (Nat.succ_le_of_lt hr4.2.2.2.2.2)
        clear hr4 hg4 HR3 HO3 HB3
        obtain ⟨c0, c1, c2, f1, f2, f3⟩ := HR4.out
        go_wp2_with (at_builtin; refine wpList_append_span (.tmp 39) (.tmp 44) rfl rfl (w.heap.size + 1) _ out rfl HO4.out (last + x, last + x + y, z) 1 _ rfl rfl (by omega) HF4.out ?_; intro v5 w5 ho5 hg5)
        have HO5 := Lib.hid ho5
        have HR5 := Lib.hid (HR4.out.grown hg5 (fun e => by have := HO4.out.base _ e; omega))
        have HB5 := Lib.hid (HB4.out.grown hg5 HB4.out.size (fun k hk => by have := HO4.out.base k hk; omega))
        clear ho5 hg5 c0 c1 c2 f1 f2 f3
        go_wp2
        go_roundw
        case rel => exact ⟨k + 1, last + x + y, j3, 1, false, out ++ [(last + x, last + x + y, z)], by omega, by go_num, rfl, rfl, rfl, by omega, by omega, by omega, by simp; omega, fun _ => HQ.out, HR5, HO5, HB5⟩
        case measure => simp [intOf]; omega
      · have st := st1 he
        rw [st] at hEq2
        injection hEq2 with x1 x2
        injection x2 with x2 x3
        subst x1; subst x2; subst x3
        have hd : (d3 != 0) = true := by simp [he]
        clear st st1 st2 he
        go_wp2_with fail
        refine (number_any w.heap.size s j 0 _ _ x j1 d1 _ HS.out hr.out HNX).mono ?_
        rintro e w2 ⟨rfl, hr2, hg2⟩
        have HR2 := Lib.hid hr2
        have HB2 := Lib.hid (hbel.out.grown hg2 hbel.out.size (by rintro k ⟨⟩; exact Nat.le_refl _))
        clear hr2 hg2
        go_wp2_with fail
        refine (number_any w.heap.size s j1 d1 _ _ y j2 d2 _ HS.out HR2.out HNY).mono ?_
        rintro e w3 ⟨rfl, hr3, hg3⟩
        have HR3 := Lib.hid hr3
        have HB3 := Lib.hid (HB2.out.grown hg3 HB2.out.size (by rintro k ⟨⟩; exact Nat.le_refl _))
        clear hr3 hg3 HR2 HB2
        go_wp2_with fail
        refine (number_any w.heap.size s j2 d2 _ _ z j3 d3 _ HS.out HR3.out HNZ).mono ?_
        rintro e w4 ⟨rfl, hr4, hg4⟩
        have HR4 := Lib.hid hr4
        have HB4 := Lib.hid (HB3.out.grown hg4 HB3.out.size (by rintro k ⟨⟩; exact Nat.le_refl _))
        clear hr4 hg4 HR3 HB3
        obtain ⟨c0, c1, c2, f1, f2, f3⟩ := HR4.out
        go_wp2
        go_quiet (fail)
        go_wp2
        go_ret3
        exact RetT.of (Nat.le_refl _) (Spans.nil _ _) (pk_below_drewN HB4.out _)
    · obtain rfl : k = n := by omega
      obtain ⟨c0, c1, c2, f1, f2, f3⟩ := hr.out
      by_cases h0 : e1 = 0
      · have hEq2 := hEq.out h0
        rw [Nat.sub_self, getSF] at hEq2
        injection hEq2 with x1 x2
        injection x2 with x2 x3
        subst x1; subst x2; subst x3
        subst h0
        have hd : ((0 : Int) != 0) = false := rfl
        clear hEq
        go_wp2
        go_quiet (fail)
        go_wp2
        go_ret3
        exact RetT.of (B := w.heap.size + 1) (Nat.le_succ _) ho.out (pk_below_drewN hbel.out _)
      · have hEq2 := (HX.out h0).2
        injection hEq2 with x1 x2
        injection x2 with x2 x3
        subst x1; subst x2; subst x3
        have hd : (e1 != 0) = true := by simp [h0]
        clear hEq h0
        go_wp2
        go_quiet (fail)
        go_wp2
        go_ret3
        exact RetT.of (Nat.le_refl _) (Spans.nil _ _) (pk_below_drewN hbel.out _)

theorem getSpans_any (s : ByteArray) (a : Int) (L : List Sp) (i er : Int) (w : World) (hs : s.size ≤ maxLen) (hE : Hid (getSpansS s a = (L, i, er))) :
    Calls Tryz.prog 155 #[.string s, .int .i64 a] w (RetS L i er w) :=
  (getSpans_own s a L i er w hs hE).mono fun _ _ h => h.toS

end Go.Proofs.YtnnhcgflmhjakaaGreatDoor

namespace Go.Proofs.YtnnhcgflmhjakaaGreatDoor
open Go Go.RowKit

theorem getLF_len (s : ByteArray) (a : Int) (n : Nat) (i last : Int) (out : List Int) : (getLF s a n i last out).1.length ≤ out.length + n := by
  induction n generalizing i last out with
  | zero => simp [getLF]
  | succ n ih =>
    rw [getLF]
    split
    · simp
    · split
      · simp
      · refine Nat.le_trans (ih _ _ _) ?_
        simp; omega

theorem getListS_len (s : ByteArray) (a : Int) : (getListS s a).1.length ≤ 4096 := by
  rw [getListS]
  split
  · simp
  · split
    · simp
    · refine Nat.le_trans (getLF_len _ _ _ _ _ _) ?_
      simp; omega

theorem getSF_len (s : ByteArray) (a : Int) (n : Nat) (first : Bool) (i last : Int) (out : List Sp) : (getSF s a n first i last out).1.length ≤ out.length + n := by
  induction n generalizing first i last out with
  | zero => simp [getSF]
  | succ n ih =>
    rw [getSF]
    simp only
    split
    · simp
    · split
      · simp
      · split
        · simp
        · split
          · simp
          · split
            · simp
            · split
              · simp
              · refine Nat.le_trans (ih _ _ _ _) ?_
                simp; omega

theorem getSpansS_len (s : ByteArray) (a : Int) : (getSpansS s a).1.length ≤ 256 := by
  rw [getSpansS]
  split
  · simp
  · split
    · simp
    · refine Nat.le_trans (getSF_len _ _ _ _ _ _ _) ?_
      simp; omega

end Go.Proofs.YtnnhcgflmhjakaaGreatDoor
