/-
  Plain mathematics of UTF-8: what is decoded is what was encoded, and the other way round. No program is imported.
-/
import Derived.Test.YtcpldaanffjbjaaUtfSpec
namespace Go.Proofs.Ytcpldaanffjbjaa

/-- The encoding as bytes. -/
def encU (c : Int) : List UInt8 := (encB c).map fun n => UInt8.ofNat n.toNat
def flatU (zs : List Int) : List UInt8 := zs.flatMap encU

theorem strOfNums_flat (zs : List Int) : (strOfNums (flat zs)).data.toList = flatU zs := by
  rw [strOfNums_data, flat, flatU, List.map_flatMap]; rfl

theorem toNat_ofNat (n : Int) (h0 : 0 ≤ n) (h1 : n ≤ 255) : ((UInt8.ofNat n.toNat).toNat : Int) = n := by
  rw [UInt8.toNat_ofNat']
  omega

theorem firstS_encU (c : Int) (r : List UInt8) (h : lenS c ≠ 0) : firstS (encU c ++ r) = (c, lenS c) := by
  have hl := encB_len c h
  unfold lenS at h
  by_cases h1 : c ≤ 127
  · have e : encB c = [c] := by simp [encB, h1]
    have en : lenS c = 1 := by unfold lenS; omega
    have t := toNat_ofNat c (by omega) (by omega)
    simp only [encU, e, List.map_cons, List.map_nil, List.cons_append, List.nil_append, firstS, t]
    have s1 : sfN c = 1 := by unfold sfN; omega
    have s2 : sfC c = c := by unfold sfC; omega
    rw [s1, s2, if_neg (by omega)]
    simp [contS, en]
  by_cases h2 : c ≤ 2047
  · have e : encB c = [192 + c / 64, 128 + c % 64] := by simp [encB, h1, h2]
    have en : lenS c = 2 := by unfold lenS; omega
    have t1 := toNat_ofNat (192 + c / 64) (by omega) (by omega)
    have t2 := toNat_ofNat (128 + c % 64) (by omega) (by omega)
    simp only [encU, e, List.map_cons, List.map_nil, List.cons_append, List.nil_append, firstS, t1]
    have s1 : sfN (192 + c / 64) = 2 := by unfold sfN; omega
    have s2 : sfC (192 + c / 64) = c / 64 := by unfold sfC; omega
    rw [s1, s2, if_neg (by simp; omega)]
    have e2 : c / 64 * 64 + (128 + c % 64 - 128) = c := by omega
    simp only [show ((2 : Int) - 1).toNat = 1 by decide, List.take_succ_cons, List.take_zero, contS, t2]
    rw [if_pos (by omega), e2]
    simp only [en, if_true]
  by_cases h3 : c ≤ 65535
  · have e : encB c = [224 + c / 4096, 128 + c / 64 % 64, 128 + c % 64] := by simp [encB, h1, h2, h3]
    have en : lenS c = 3 := by unfold lenS; omega
    have t1 := toNat_ofNat (224 + c / 4096) (by omega) (by omega)
    have t2 := toNat_ofNat (128 + c / 64 % 64) (by omega) (by omega)
    have t3 := toNat_ofNat (128 + c % 64) (by omega) (by omega)
    simp only [encU, e, List.map_cons, List.map_nil, List.cons_append, List.nil_append, firstS, t1]
    have s1 : sfN (224 + c / 4096) = 3 := by unfold sfN; omega
    have s2 : sfC (224 + c / 4096) = c / 4096 := by unfold sfC; omega
    rw [s1, s2, if_neg (by simp; omega)]
    have e2 : (c / 4096 * 64 + (128 + c / 64 % 64 - 128)) * 64 + (128 + c % 64 - 128) = c := by omega
    simp only [show ((3 : Int) - 1).toNat = 2 by decide, List.take_succ_cons, List.take_zero, contS, t2, t3]
    rw [if_pos (by omega), if_pos (by omega), e2]
    simp only [en, if_true]
  · have e : encB c = [240 + c / 262144, 128 + c / 4096 % 64, 128 + c / 64 % 64, 128 + c % 64] := by simp [encB, h1, h2, h3]
    have en : lenS c = 4 := by unfold lenS; omega
    have t1 := toNat_ofNat (240 + c / 262144) (by omega) (by omega)
    have t2 := toNat_ofNat (128 + c / 4096 % 64) (by omega) (by omega)
    have t3 := toNat_ofNat (128 + c / 64 % 64) (by omega) (by omega)
    have t4 := toNat_ofNat (128 + c % 64) (by omega) (by omega)
    simp only [encU, e, List.map_cons, List.map_nil, List.cons_append, List.nil_append, firstS, t1]
    have s1 : sfN (240 + c / 262144) = 4 := by unfold sfN; omega
    have s2 : sfC (240 + c / 262144) = c / 262144 := by unfold sfC; omega
    rw [s1, s2, if_neg (by simp; omega)]
    have e2 : ((c / 262144 * 64 + (128 + c / 4096 % 64 - 128)) * 64 + (128 + c / 64 % 64 - 128)) * 64 + (128 + c % 64 - 128) = c := by omega
    simp only [show ((4 : Int) - 1).toNat = 3 by decide, List.take_succ_cons, List.take_zero, contS, t2, t3, t4]
    rw [if_pos (by omega), if_pos (by omega), if_pos (by omega), e2]
    simp only [en, if_true]

theorem contS_some {c d : Int} {b : UInt8} {r : List UInt8} (h : contS c (b :: r) = some d) : 128 ≤ (b.toNat : Int) ∧ (b.toNat : Int) < 192 ∧ contS (c * 64 + ((b.toNat : Int) - 128)) r = some d := by
  simp only [contS] at h
  by_cases hb : 128 ≤ (b.toNat : Int) ∧ (b.toNat : Int) < 192
  · rw [if_pos hb] at h; exact ⟨hb.1, hb.2, h⟩
  · rw [if_neg hb] at h; cases h

theorem ofNat_of (b : UInt8) (n : Int) (h : n = b.toNat) : UInt8.ofNat n.toNat = b := by
  subst h; simp

theorem cons_of_lt {l : List UInt8} (h : 0 < l.length) : ∃ b r, l = b :: r := by
  cases l with
  | nil => simp at h
  | cons b r => exact ⟨b, r, rfl⟩

theorem firstS_enc (l : List UInt8) (c : Int) (z : Nat) (h : firstS l = (c, ((z + 1 : Nat) : Int))) : lenS c = ((z + 1 : Nat) : Int) ∧ l.take (z + 1) = encU c := by
  cases l with
  | nil => simp [firstS] at h; omega
  | cons b r =>
    have hb := b.toNat_lt
    simp only [firstS] at h
    by_cases h0 : sfN b.toNat = 0 ∨ (r.length : Int) + 1 < sfN b.toNat
    · rw [if_pos h0] at h; simp at h; omega
    rw [if_neg h0] at h
    split at h
    · simp at h; omega
    rename_i d hd
    by_cases hl : lenS d = sfN b.toNat
    · rw [if_pos hl] at h
      simp only [Prod.mk.injEq] at h
      obtain ⟨rfl, hz⟩ := h
      refine ⟨by rw [hl, hz], ?_⟩
      rw [List.take_succ_cons]
      rw [hz] at hd hl h0
      have hz' : ((z + 1 : Nat) : Int) - 1 = z := by omega
      rw [hz', Int.toNat_natCast] at hd
      have hn : z + 1 = 1 ∨ z + 1 = 2 ∨ z + 1 = 3 ∨ z + 1 = 4 := by unfold sfN at hz; omega
      have hlen : z ≤ r.length := by omega
      rcases hn with hn | hn | hn | hn
      · obtain rfl : z = 0 := by omega
        simp only [List.take_zero, contS, Option.some.injEq] at hd
        have hx : d ≤ 127 := by unfold lenS at hl; omega
        have e : encB d = [d] := by simp [encB, hx]
        have hb : d = b.toNat := by rw [← hd]; unfold sfC sfN at *; omega
        simp [encU, e, ofNat_of b d hb]
      · obtain rfl : z = 1 := by omega
        obtain ⟨b1, r, rfl⟩ := cons_of_lt (l := r) (by omega)
        · skip
          simp only [List.take_succ_cons, List.take_zero] at hd ⊢
          obtain ⟨x1, x2, hd⟩ := contS_some hd
          simp only [contS, Option.some.injEq] at hd
          have hx : 127 < d ∧ d ≤ 2047 := by unfold lenS at hl; omega
          have e : encB d = [192 + d / 64, 128 + d % 64] := by unfold encB; rw [if_neg (by omega), if_pos hx.2]
          have hs : sfC b.toNat = b.toNat - 192 := by unfold sfC sfN at *; omega
          rw [hs] at hd
          simp only [encU, e, List.map_cons, List.map_nil]
          rw [ofNat_of b _ (by omega), ofNat_of b1 _ (by omega)]
      · obtain rfl : z = 2 := by omega
        obtain ⟨b1, r, rfl⟩ := cons_of_lt (l := r) (by omega)
        obtain ⟨b2, r, rfl⟩ := cons_of_lt (l := r) (by simp at hlen; omega)
        · skip
          simp only [List.take_succ_cons, List.take_zero] at hd ⊢
          obtain ⟨x1, x2, hd⟩ := contS_some hd
          obtain ⟨y1, y2, hd⟩ := contS_some hd
          simp only [contS, Option.some.injEq] at hd
          have hx : 2047 < d ∧ d ≤ 65535 := by unfold lenS at hl; omega
          have e : encB d = [224 + d / 4096, 128 + d / 64 % 64, 128 + d % 64] := by unfold encB; rw [if_neg (by omega), if_neg (by omega), if_pos hx.2]
          have hs : sfC b.toNat = b.toNat - 224 := by unfold sfC sfN at *; omega
          rw [hs] at hd
          simp only [encU, e, List.map_cons, List.map_nil]
          rw [ofNat_of b _ (by omega), ofNat_of b1 _ (by omega), ofNat_of b2 _ (by omega)]
      · obtain rfl : z = 3 := by omega
        obtain ⟨b1, r, rfl⟩ := cons_of_lt (l := r) (by omega)
        obtain ⟨b2, r, rfl⟩ := cons_of_lt (l := r) (by simp at hlen; omega)
        obtain ⟨b3, r, rfl⟩ := cons_of_lt (l := r) (by simp at hlen; omega)
        · skip
          simp only [List.take_succ_cons, List.take_zero] at hd ⊢
          obtain ⟨x1, x2, hd⟩ := contS_some hd
          obtain ⟨y1, y2, hd⟩ := contS_some hd
          obtain ⟨v1, v2, hd⟩ := contS_some hd
          simp only [contS, Option.some.injEq] at hd
          have hx : 65535 < d := by unfold lenS at hl; omega
          have e : encB d = [240 + d / 262144, 128 + d / 4096 % 64, 128 + d / 64 % 64, 128 + d % 64] := by unfold encB; rw [if_neg (by omega), if_neg (by omega), if_neg (by omega)]
          have hs : sfC b.toNat = b.toNat - 240 := by unfold sfC sfN at *; omega
          rw [hs] at hd
          simp only [encU, e, List.map_cons, List.map_nil]
          rw [ofNat_of b _ (by omega), ofNat_of b1 _ (by omega), ofNat_of b2 _ (by omega), ofNat_of b3 _ (by omega)]
    · rw [if_neg hl] at h; simp at h; omega

theorem dec_encU (c : Int) (r : List UInt8) (h : lenS c ≠ 0) : dec (encU c ++ r) = (c :: (dec r).1, (encU c).length + (dec r).2) := by
  have hb := lenS_bd c
  obtain ⟨z, hz⟩ : ∃ z : Nat, lenS c = ((z + 1 : Nat) : Int) := ⟨(lenS c).toNat - 1, by omega⟩
  have hl : (encU c).length = z + 1 := by
    have := encB_len c h
    unfold encU
    rw [List.length_map]
    omega
  have hf := firstS_encU c r h
  rw [hz] at hf
  rw [dec_step _ c z hf, ← hl, List.drop_left]

theorem dec_flatU (r : List UInt8) : ∀ (zs : List Int), allS zs = true → dec (flatU zs ++ r) = (zs ++ (dec r).1, (flatU zs).length + (dec r).2)
  | [], _ => by simp [flatU]
  | c :: zs, h => by
    simp only [allS, List.all_cons, Bool.and_eq_true, Bool.not_eq_true', beq_eq_false_iff_ne] at h
    have e : flatU (c :: zs) ++ r = encU c ++ (flatU zs ++ r) := by simp [flatU]
    rw [e, dec_encU c _ h.1, dec_flatU r zs h.2]
    simp [flatU]
    omega

theorem dec_back : ∀ (k : Nat) (l : List UInt8), l.length ≤ k → allS (dec l).1 = true ∧ l.take (dec l).2 = flatU (dec l).1
  | k, l, hk => by
    by_cases h0 : (firstS l).2 = 0
    · rw [dec_zero l h0]; simp [allS, flatU]
    · have hb := firstS_bd l
      obtain ⟨z, hz⟩ : ∃ z : Nat, (firstS l).2 = ((z + 1 : Nat) : Int) := ⟨(firstS l).2.toNat - 1, by omega⟩
      have hf : firstS l = ((firstS l).1, ((z + 1 : Nat) : Int)) := Prod.ext rfl hz
      obtain ⟨e1, e2⟩ := firstS_enc l _ z hf
      rw [dec_step l _ z hf]
      match k, hk with
      | 0, hk => omega
      | k + 1, hk =>
        obtain ⟨i1, i2⟩ := dec_back k (l.drop (z + 1)) (by simp; omega)
        refine ⟨?_, ?_⟩
        · simp only [allS, List.all_cons, Bool.and_eq_true, Bool.not_eq_true', beq_eq_false_iff_ne]
          exact ⟨by omega, i1⟩
        · simp only [flatU, List.flatMap_cons]
          rw [← e2, List.take_add, i2]
          rfl

/-- The longest well-formed beginning is well-formed, and is the encoding of its scalar values. -/
theorem dec_take (l : List UInt8) : dec (l.take (dec l).2) = dec l := by
  obtain ⟨h1, h2⟩ := dec_back l.length l (Nat.le_refl _)
  have hb := dec_bd l.length l (Nat.le_refl _)
  have h3 := dec_flatU [] _ h1
  rw [← h2, List.append_nil, dec_zero [] rfl] at h3
  rw [h3]
  simp only [List.append_nil, Nat.add_zero, List.length_take]
  exact Prod.ext rfl (by simp only; omega)

end Go.Proofs.Ytcpldaanffjbjaa
