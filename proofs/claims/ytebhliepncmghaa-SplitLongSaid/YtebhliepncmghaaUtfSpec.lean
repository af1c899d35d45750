/-
  Plain mathematics of UTF-8: lengths, encodings, and the longest well-formed beginning. No program is imported.
-/
import Derived.WalkKit
import Derived.Laws.BytesArg
namespace Go.Proofs.Ytebhliepncmghaa

/-- The number of bytes of the encoding of c; 0 if c is no scalar value. -/
def lenS (c : Int) : Int :=
  if c < 0 then 0 else if 1114111 < c then 0 else if 55296 ≤ c ∧ c ≤ 57343 then 0 else if c ≤ 127 then 1 else if c ≤ 2047 then 2 else if c ≤ 65535 then 3 else 4

theorem lenS_bd (c : Int) : 0 ≤ lenS c ∧ lenS c ≤ 4 := by unfold lenS; omega

/-- The first byte's bits, and the number of bytes that it announces. -/
def sfC (b : Int) : Int := if b < 128 then b else if b < 192 then 0 else if b < 224 then b - 192 else if b < 240 then b - 224 else if b < 248 then b - 240 else 0
def sfN (b : Int) : Int := if b < 128 then 1 else if b < 192 then 0 else if b < 224 then 2 else if b < 240 then 3 else if b < 248 then 4 else 0

/-- Further bytes, six bits each, behind c: none if one of them is no further byte. -/
def contS (c : Int) : List UInt8 → Option Int
  | [] => some c
  | b :: r => if 128 ≤ (b.toNat : Int) ∧ (b.toNat : Int) < 192 then contS (c * 64 + ((b.toNat : Int) - 128)) r else none

theorem contS_snoc (x : UInt8) : ∀ (l : List UInt8) (c : Int), contS c (l ++ [x]) = match contS c l with
    | none => none
    | some d => if 128 ≤ (x.toNat : Int) ∧ (x.toNat : Int) < 192 then some (d * 64 + ((x.toNat : Int) - 128)) else none
  | [], c => by simp [contS]
  | b :: r, c => by
    simp only [List.cons_append, contS]
    by_cases h : 128 ≤ (b.toNat : Int) ∧ (b.toNat : Int) < 192
    · simp only [if_pos h]; exact contS_snoc x r _
    · simp only [if_neg h]

theorem contS_none (m : List UInt8) : ∀ (l : List UInt8) (c : Int), contS c l = none → contS c (l ++ m) = none
  | [], c, h => by simp [contS] at h
  | b :: r, c, h => by
    simp only [List.cons_append, contS] at *
    by_cases hb : 128 ≤ (b.toNat : Int) ∧ (b.toNat : Int) < 192
    · simp only [if_pos hb] at *; exact contS_none m r _ h
    · simp only [if_neg hb]

theorem contS_bd : ∀ (l : List UInt8) (c d : Int), contS c l = some d → 0 ≤ c → 0 ≤ d ∧ d < (c + 1) * 64 ^ l.length
  | [], c, d, h, hc => by simp [contS] at h; simp; omega
  | b :: r, c, d, h, hc => by
    simp only [contS] at h
    by_cases hb : 128 ≤ (b.toNat : Int) ∧ (b.toNat : Int) < 192
    · rw [if_pos hb] at h
      have := contS_bd r _ d h (by omega)
      refine ⟨this.1, Int.lt_of_lt_of_le this.2 ?_⟩
      rw [List.length_cons, Int.pow_succ, Int.mul_comm (64 ^ r.length) 64, ← Int.mul_assoc]
      exact Int.mul_le_mul_of_nonneg_right (by omega) (Int.pow_nonneg (by omega))
    · rw [if_neg hb] at h; cases h

theorem contS_small (l : List UInt8) (c d : Int) (h : contS c l = some d) (h0 : 0 ≤ c) (h1 : c ≤ 127) (hl : l.length ≤ 3) : 0 ≤ d ∧ d < 33554432 := by
  have := contS_bd l c d h h0
  refine ⟨this.1, Int.lt_of_lt_of_le this.2 ?_⟩
  match l.length, hl with
  | 0, _ => omega
  | 1, _ => omega
  | 2, _ => omega
  | 3, _ => omega

/-- The scalar value whose encoding begins l, and its number of bytes; (0, 0) if none does. -/
def firstS : List UInt8 → Int × Int
  | [] => (0, 0)
  | b :: r =>
    if sfN b.toNat = 0 ∨ (r.length : Int) + 1 < sfN b.toNat then (0, 0) else
    match contS (sfC b.toNat) (r.take (sfN b.toNat - 1).toNat) with
    | none => (0, 0)
    | some c => if lenS c = sfN b.toNat then (c, sfN b.toNat) else (0, 0)

theorem sf_bd (b : Int) (h0 : 0 ≤ b) (h1 : b ≤ 255) : 0 ≤ sfC b ∧ sfC b ≤ 127 ∧ 0 ≤ sfN b ∧ sfN b ≤ 4 := by unfold sfC sfN; omega

theorem firstS_bd (l : List UInt8) : 0 ≤ (firstS l).2 ∧ (firstS l).2 ≤ l.length := by
  unfold firstS
  split
  · simp
  · rename_i b r
    have := sf_bd b.toNat (by omega) (by have := b.toNat_lt; omega)
    split
    · simp; omega
    · split
      · simp; omega
      · split <;> simp <;> omega

/-- The encoding of a scalar value: its bytes as numbers. -/
def encB (c : Int) : List Int :=
  if c ≤ 127 then [c] else if c ≤ 2047 then [192 + c / 64, 128 + c % 64] else if c ≤ 65535 then [224 + c / 4096, 128 + c / 64 % 64, 128 + c % 64]
  else [240 + c / 262144, 128 + c / 4096 % 64, 128 + c / 64 % 64, 128 + c % 64]

theorem encB_len (c : Int) (h : lenS c ≠ 0) : ((encB c).length : Int) = lenS c := by
  unfold encB lenS at *; repeat' split
  all_goals simp_all
  all_goals omega

/-- The longest well-formed beginning: its scalar values and its number of bytes. -/
def decS : Nat → List UInt8 → List Int × Nat
  | 0, _ => ([], 0)
  | k + 1, l =>
    if (firstS l).2 = 0 then ([], 0) else
    let r := decS k (l.drop (firstS l).2.toNat)
    ((firstS l).1 :: r.1, (firstS l).2.toNat + r.2)

/-- The encodings, one after the other, as numbers. -/
def flat (zs : List Int) : List Int := zs.flatMap encB

theorem encB_bd (c : Int) : (encB c).length ≤ 4 := by
  unfold encB; repeat' split
  all_goals simp

theorem flat_bd (zs : List Int) : (flat zs).length ≤ 4 * zs.length := by
  induction zs with
  | nil => simp [flat]
  | cons c r ih =>
    have := encB_bd c
    simp only [flat, List.flatMap_cons, List.length_append, List.length_cons] at *
    omega

theorem flat_snoc (zs : List Int) (c : Int) : flat (zs ++ [c]) = flat zs ++ encB c := by simp [flat]

/-- All of them are scalar values. -/
def allS (zs : List Int) : Bool := zs.all fun c => !(lenS c == 0)

theorem allS_snoc (zs : List Int) (c : Int) : allS (zs ++ [c]) = (allS zs && !(lenS c == 0)) := by simp [allS]

/-- What Encode answers. -/
def encodeS (zs : List Int) : ByteArray × Int :=
  if 4096 < zs.length then (ByteArray.empty, 7) else if allS zs = true then (strOfNums (flat zs), 0) else (ByteArray.empty, 3)

theorem decS_fuel : ∀ (k j : Nat) (l : List UInt8), l.length ≤ k → l.length ≤ j → decS k l = decS j l
  | 0, 0, l, _, _ => rfl
  | 0, j + 1, l, h, _ => by
    obtain rfl : l = [] := List.eq_nil_of_length_eq_zero (by omega)
    simp [decS, firstS]
  | k + 1, 0, l, _, h => by
    obtain rfl : l = [] := List.eq_nil_of_length_eq_zero (by omega)
    simp [decS, firstS]
  | k + 1, j + 1, l, h, h' => by
    unfold decS
    by_cases h0 : (firstS l).2 = 0
    · simp [h0]
    · have hb := firstS_bd l
      rw [if_neg h0, if_neg h0, decS_fuel k j _ (by simp; omega) (by simp; omega)]

/-- The longest well-formed beginning. -/
def dec (l : List UInt8) : List Int × Nat := decS l.length l

theorem dec_zero (l : List UInt8) (h : (firstS l).2 = 0) : dec l = ([], 0) := by
  unfold dec
  cases l with
  | nil => rfl
  | cons b r => rw [List.length_cons, decS, if_pos h]

theorem dec_step (l : List UInt8) (c : Int) (z : Nat) (h : firstS l = (c, ((z + 1 : Nat) : Int))) : dec l = (c :: (dec (l.drop (z + 1))).1, z + 1 + (dec (l.drop (z + 1))).2) := by
  have hb := firstS_bd l
  rw [h] at hb
  simp only at hb
  unfold dec
  cases l with
  | nil => rw [List.length_nil] at hb; omega
  | cons b r =>
    have h0 : (firstS (b :: r)).2 ≠ 0 := by rw [h]; simp only; omega
    rw [List.length_cons, decS, if_neg h0, h]
    simp only [Int.toNat_natCast]
    rw [decS_fuel r.length _ _ (by simp) (Nat.le_refl _)]

theorem dec_bd : ∀ (k : Nat) (l : List UInt8), l.length ≤ k → (dec l).2 ≤ l.length ∧ (dec l).1.length ≤ (dec l).2
  | k, l, hk => by
    by_cases h0 : (firstS l).2 = 0
    · rw [dec_zero l h0]; simp
    · have hb := firstS_bd l
      obtain ⟨z, hz⟩ : ∃ z : Nat, (firstS l).2 = ((z + 1 : Nat) : Int) := ⟨(firstS l).2.toNat - 1, by omega⟩
      rw [dec_step l _ z (Prod.ext rfl hz)]
      match k, hk with
      | 0, hk => omega
      | k + 1, hk =>
        have := dec_bd k (l.drop (z + 1)) (by simp; omega)
        simp only [List.length_drop, List.length_cons] at *
        omega

theorem dec_letters (n : Nat) : dec (List.replicate n (97 : UInt8)) = (List.replicate n (97 : Int), n) := by
  induction n with
  | zero => rfl
  | succ n ih =>
    rw [List.replicate_succ, dec_step (97 :: List.replicate n 97) 97 0 (by simp [firstS, sfN, sfC, contS, lenS]; omega)]
    rw [List.drop_succ_cons, List.drop_zero, ih]
    simp [List.replicate_succ]
    omega

theorem allS_zeros (n : Nat) : allS (List.replicate n 0) = true := by
  unfold allS
  rw [List.all_eq_true]
  intro x hx
  rw [List.eq_of_mem_replicate hx]
  decide

end Go.Proofs.Ytebhliepncmghaa
