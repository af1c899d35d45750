/-
  Compact numbers, plain mathematics: the code of an integer in groups of seven bits, reading it, that each gives back the other, and that a code that is cut off is short.
-/
import Derived.Laws.BytesArg
namespace Go.Proofs.Ytimabgaobhfiaaa

/-- The code of an integer as an unsigned number. -/
def zz (v : Int) : Int := if 0 ≤ v then 2 * v else -2 * v - 1
def unzz (u : Int) : Int := if u % 2 = 0 then u / 2 else -(u / 2) - 1

theorem unzz_zz (v : Int) : unzz (zz v) = v := by
  unfold unzz zz
  split <;> split <;> omega
theorem zz_unzz (u : Int) (h : 0 ≤ u) : zz (unzz u) = u := by
  unfold unzz zz
  split <;> split <;> omega
theorem zz_bd (v : Int) (h0 : -9223372036854775808 ≤ v) (h1 : v ≤ 9223372036854775807) : 0 ≤ zz v ∧ zz v < 18446744073709551616 := by
  unfold zz; split <;> omega
theorem unzz_bd (u : Int) (h0 : 0 ≤ u) (h1 : u < 18446744073709551616) : -9223372036854775808 ≤ unzz u ∧ unzz u ≤ 9223372036854775807 := by
  unfold unzz; split <;> omega

/-- 128 to the k-th. -/
def p7 : Nat → Int
  | 0 => 1
  | k + 1 => 128 * p7 k

theorem p7_pos (k : Nat) : 1 ≤ p7 k := by
  induction k with
  | zero => decide
  | succ k ih => simp only [p7]; omega

theorem p7_9 : p7 9 = 9223372036854775808 := by decide

/-- The groups of u, with f + 1 bytes at most. -/
def codF : Nat → Int → List Int
  | 0, u => [u]
  | f + 1, u => if 127 < u then (u % 128 + 128) :: codF f (u / 128) else [u]

def cod (u : Int) : List Int := codF 9 u

theorem codF_big {f : Nat} {u : Int} (h : 127 < u) : codF (f + 1) u = (u % 128 + 128) :: codF f (u / 128) := by rw [codF, if_pos h]
theorem codF_small {f : Nat} {u : Int} (h : u ≤ 127) : codF f u = [u] := by
  cases f with
  | zero => rfl
  | succ f => rw [codF, if_neg (by omega)]

theorem codF_length (f : Nat) (u : Int) : 1 ≤ (codF f u).length ∧ (codF f u).length ≤ f + 1 := by
  induction f generalizing u with
  | zero => simp [codF]
  | succ f ih =>
    have := ih (u / 128)
    simp only [codF]
    split <;> simp <;> omega

theorem div_lt (f : Nat) (u : Int) (h : u < 2 * p7 (f + 1)) : u / 128 < 2 * p7 f := by simp only [p7] at h; omega

theorem codF_bytes (f : Nat) (u : Int) (h0 : 0 ≤ u) (h1 : u < 2 * p7 f) : ∀ x ∈ codF f u, 0 ≤ x ∧ x < 256 := by
  induction f generalizing u with
  | zero => intro x hx; simp only [codF, List.mem_singleton] at hx; subst hx; simp only [p7] at h1; omega
  | succ f ih =>
    intro x hx
    by_cases h : 127 < u
    · rw [codF_big h, List.mem_cons] at hx
      rcases hx with rfl | hx
      · omega
      · exact ih (u / 128) (by omega) (div_lt f u h1) x hx
    · rw [codF_small (by omega), List.mem_singleton] at hx; subst hx; omega

/-- Reading: the error (0 is none), the number, the count of bytes. k bytes have been read, they gave u. -/
def getR (k : Nat) (u : Int) : List Int → Int × Int × Nat
  | [] => (5, 0, 0)
  | b :: r => if k = 9 ∧ 1 < b then (4, 0, 0) else if b < 128 then (if 0 < k ∧ b = 0 then (4, 0, 0) else (0, u + b * p7 k, k + 1)) else getR (k + 1) (u + (b - 128) * p7 k) r

theorem group (u P : Int) : u % 128 * P + u / 128 * (128 * P) = u * P := by
  have h : u % 128 + u / 128 * 128 = u := by omega
  calc u % 128 * P + u / 128 * (128 * P) = u % 128 * P + u / 128 * 128 * P := by rw [Int.mul_assoc]
    _ = (u % 128 + u / 128 * 128) * P := by rw [Int.add_mul]
    _ = u * P := by rw [h]

theorem get_cod (f k : Nat) (acc u : Int) (rest : List Int) (hk : f + k = 9) (h0 : 0 ≤ u) (h1 : u < 2 * p7 f) (h2 : k = 0 ∨ 0 < u) :
    getR k acc (codF f u ++ rest) = (0, acc + u * p7 k, k + (codF f u).length) := by
  induction f generalizing k acc u with
  | zero =>
    simp only [p7] at h1
    rw [codF_small (by omega)]
    simp only [List.cons_append, List.nil_append, getR]
    rw [if_neg (by omega), if_pos (by omega), if_neg (by omega)]
    rfl
  | succ f ih =>
    by_cases h : 127 < u
    · rw [codF_big h]
      simp only [List.cons_append, getR]
      rw [if_neg (by omega), if_neg (by omega), ih (k + 1) _ (u / 128) (by omega) (by omega) (div_lt f u h1) (by omega)]
      simp only [p7, List.length_cons]
      refine Prod.ext rfl (Prod.ext ?_ ?_)
      · simp only
        rw [show u % 128 + 128 - 128 = u % 128 by omega, Int.add_assoc, group]
      · simp only; omega
    · rw [codF_small (by omega)]
      simp only [List.cons_append, List.nil_append, getR]
      rw [if_neg (by omega), if_pos (by omega), if_neg (by omega)]
      rfl

theorem get_short (f k c : Nat) (acc u : Int) (hk : f + k = 9) (h0 : 0 ≤ u) (h1 : u < 2 * p7 f) (hc : c < (codF f u).length) : getR k acc ((codF f u).take c) = (5, 0, 0) := by
  induction f generalizing k acc u c with
  | zero => obtain rfl : c = 0 := by simp only [codF, List.length_singleton] at hc; omega
            rfl
  | succ f ih =>
    cases c with
    | zero => rfl
    | succ c =>
      by_cases h : 127 < u
      · rw [codF_big h] at hc ⊢
        simp only [List.take_succ_cons, getR]
        rw [if_neg (by omega), if_neg (by omega)]
        exact ih (k + 1) c _ (u / 128) (by omega) (by omega) (div_lt f u h1) (by simpa using hc)
      · rw [codF_small (by omega)] at hc
        simp at hc

theorem cod_get (l : List Int) (k n : Nat) (acc U : Int) (hb : ∀ x ∈ l, 0 ≤ x ∧ x < 256) (hk : k ≤ 9) (h : getR k acc l = (0, U, n)) :
    ∃ u, 0 ≤ u ∧ u < 2 * p7 (9 - k) ∧ U = acc + u * p7 k ∧ k < n ∧ n ≤ 10 ∧ n ≤ k + l.length ∧ codF (9 - k) u = l.take (n - k) ∧ (0 < k → 0 < u) := by
  induction l generalizing k acc with
  | nil => simp [getR] at h
  | cons b r ih =>
    have hb0 := hb b (by simp)
    simp only [getR] at h
    by_cases h9 : k = 9 ∧ 1 < b
    · rw [if_pos h9] at h; simp at h
    · rw [if_neg h9] at h
      by_cases hs : b < 128
      · rw [if_pos hs] at h
        by_cases hz : 0 < k ∧ b = 0
        · rw [if_pos hz] at h; simp at h
        · rw [if_neg hz] at h
          simp only [Prod.mk.injEq, true_and] at h
          obtain ⟨hU, hn⟩ := h
          refine ⟨b, hb0.1, ?_, hU.symm, by omega, by omega, by simp; omega, ?_, by omega⟩
          · by_cases hk9 : k = 9
            · subst hk9; simp only [Nat.sub_self, p7]; omega
            · obtain ⟨m, hm⟩ : ∃ m, 9 - k = m + 1 := ⟨8 - k, by omega⟩
              rw [hm]; simp only [p7]; have := p7_pos m; omega
          · rw [codF_small (by omega), ← hn, show k + 1 - k = 1 by omega]; rfl
      · rw [if_neg hs] at h
        have hk9 : k ≠ 9 := by omega
        obtain ⟨u, i1, i2, i3, i4, i5, i6, i7, i8⟩ := ih (k + 1) _ (fun x hx => hb x (by simp [hx])) (by omega) h
        obtain ⟨m, hm⟩ : ∃ m, 9 - k = m + 1 := ⟨8 - k, by omega⟩
        have hm2 : 9 - (k + 1) = m := by omega
        rw [hm2] at i2 i7
        have hup := i8 (by omega)
        refine ⟨(b - 128) + 128 * u, by omega, by rw [hm]; simp only [p7]; omega, ?_, by omega, i5, by simp; omega, ?_, by omega⟩
        · rw [i3, Int.add_assoc]
          congr 1
          simp only [p7]
          rw [Int.add_mul, ← Int.mul_assoc, Int.mul_comm 128 u]
        · rw [hm, codF_big (by omega)]
          have e1 : ((b - 128) + 128 * u) % 128 + 128 = b := by omega
          have e2 : ((b - 128) + 128 * u) / 128 = u := by omega
          rw [e1, e2, i7]
          obtain ⟨j, hj⟩ : ∃ j, n - k = j + 1 := ⟨n - k - 1, by omega⟩
          rw [hj, show n - (k + 1) = j by omega, List.take_succ_cons]

/-- The errors of reading. -/
theorem getR_err (l : List Int) (k : Nat) (acc : Int) : (getR k acc l).1 = 0 ∨ getR k acc l = (4, 0, 0) ∨ getR k acc l = (5, 0, 0) := by
  induction l generalizing k acc with
  | nil => exact .inr (.inr rfl)
  | cons b r ih =>
    simp only [getR]
    split
    · exact .inr (.inl rfl)
    · split
      · split
        · exact .inr (.inl rfl)
        · exact .inl rfl
      · exact ih _ _

/-- The bytes of a string as numbers. -/
def nums (s : ByteArray) : List Int := s.data.toList.map fun b => (b.toNat : Int)

theorem nums_length (s : ByteArray) : (nums s).length = s.size := by simp [nums]
theorem nums_append (a b : ByteArray) : nums (a ++ b) = nums a ++ nums b := by simp [nums]
theorem nums_bytes (s : ByteArray) : ∀ x ∈ nums s, 0 ≤ x ∧ x < 256 := by
  intro x hx
  obtain ⟨b, _, rfl⟩ := List.mem_map.1 hx
  have := b.toNat_lt
  omega

theorem nums_of (l : List Int) (h : ∀ x ∈ l, 0 ≤ x ∧ x < 256) : nums (strOfNums l) = l := by
  induction l with
  | nil => rfl
  | cons x r ih =>
    have hx := h x (by simp)
    have hr := ih fun y hy => h y (by simp [hy])
    simp only [nums, strOfNums, List.map_cons] at hr ⊢
    rw [hr]
    congr 1
    simp only [UInt8.toNat_ofNat']
    omega

/-- GetInt: the number, the index behind it, the error. -/
def getS (s : ByteArray) (at' : Int) : Int × Int × Int :=
  if at' < 0 ∨ (s.size : Int) < at' then (0, at', 3) else
    if (getR 0 0 ((nums s).drop at'.toNat)).1 = 0 then (unzz (getR 0 0 ((nums s).drop at'.toNat)).2.1, at' + (getR 0 0 ((nums s).drop at'.toNat)).2.2, 0) else (0, at', (getR 0 0 ((nums s).drop at'.toNat)).1)

/-- What PutInt adds. -/
def putB (v : Int) : ByteArray := strOfNums (cod (zz v))

theorem zz_lt (v : Int) (h0 : -9223372036854775808 ≤ v) (h1 : v ≤ 9223372036854775807) : 0 ≤ zz v ∧ zz v < 2 * p7 9 := by rw [p7_9]; have := zz_bd v h0 h1; omega

theorem putB_nums (v : Int) (h0 : -9223372036854775808 ≤ v) (h1 : v ≤ 9223372036854775807) : nums (putB v) = cod (zz v) :=
  nums_of _ (codF_bytes 9 _ (zz_lt v h0 h1).1 (zz_lt v h0 h1).2)

theorem putB_size (v : Int) : 1 ≤ (putB v).size ∧ (putB v).size ≤ 10 := by
  have := codF_length 9 (zz v)
  have e : (putB v).size = (cod (zz v)).length := by simp [putB, strOfNums, ByteArray.size]
  rw [e]; exact this

/-- GetInt gives what PutInt was given. -/
theorem get_put (b r : ByteArray) (v : Int) (h0 : -9223372036854775808 ≤ v) (h1 : v ≤ 9223372036854775807) : getS (b ++ putB v ++ r) b.size = (v, (b.size : Int) + (putB v).size, 0) := by
  have hz := zz_lt v h0 h1
  have hd : (nums (b ++ putB v ++ r)).drop ((b.size : Int)).toNat = cod (zz v) ++ nums r := by
    rw [nums_append, nums_append, putB_nums v h0 h1, Int.toNat_natCast, ← nums_length b, List.append_assoc, List.drop_left]
  have hg := get_cod 9 0 0 (zz v) (nums r) rfl hz.1 hz.2 (.inl rfl)
  have hl : (cod (zz v)).length = (putB v).size := by rw [← nums_length, putB_nums v h0 h1]
  rw [getS, if_neg (by simp only [ByteArray.size_append]; omega), hd]
  rw [show getR 0 0 (cod (zz v) ++ nums r) = _ from hg]
  simp only [if_true]
  refine Prod.ext ?_ (Prod.ext ?_ rfl)
  · simp only [p7, Int.mul_one, Int.zero_add]; exact unzz_zz v
  · simp only; rw [show (codF 9 (zz v)).length = _ from hl]; omega

end Go.Proofs.Ytimabgaobhfiaaa
