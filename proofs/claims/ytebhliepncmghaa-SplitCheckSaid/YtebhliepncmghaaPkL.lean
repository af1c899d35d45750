/-
  'string(b)' of bytes.
  Compact numbers, plain mathematics: the code of an integer in groups of seven bits, reading it, that each gives back the other, and that a code that is cut off is short.
  Compact numbers, plain mathematics: lists, spans, the sum.
  packed: unsigned, signed, isTick; the reference moderate.
  A slice of bytes that the call owns: '[]byte(s)', 'append(b, x)' of one byte, 'string(b)'. The row that '[]byte(s)' makes is marked behind its end; what is appended may pass 2^47 bytes by a little.
-/
import Derived.Test.YtebhliepncmghaaPkA
import Derived.Laws.BytesArg
import Derived.Laws.BitsAllLaws
import Derived.Lib.Zigzag
import Derived.PlainAid
import Derived.Lib.FrozenHead
set_option linter.unusedSimpArgs false
set_option linter.unusedVariables false
namespace Go.Proofs.Ytebhliepncmghaa
open Go.RowKit

/-- 'string(b)' of bytes that the call owns. -/
theorem conv_own {w : World} {B : Nat} {v : Value} {xs : List Int} {n : Nat} (h : w.ownsRow B 5 1 v n (xs.map (.int .u8))) :
    (convert 43 9 v).run Try.prog w = .ok (.string (strOfNums xs)) w := by
  obtain ⟨h1, h2⟩ := h
  rcases h2 with ⟨rfl, h3⟩ | ⟨g, cap, cur, rfl, hB, hg, hn, hc, hs, ht⟩
  · subst h3
    have : xs = [] := List.eq_nil_of_length_eq_zero (by simpa using h1)
    subst this
    exact run_convert_bytes_nil w _ _ Try.underlying43 Try.underlying5 _ _ _ Try.underlying9
  · have hl : xs.length = n := by simpa using h1
    refine run_convert_bytes_arg w _ _ Try.underlying43 Try.underlying5 g 0 n cap xs hl ?_ _ Try.underlying9
    intro k hk
    rw [cell_of_row w g (0 + k) cur _ (0, 0) hg, Nat.zero_add]
    have e : (cur.toList.take (n * 1))[k]? = (xs.map (Value.int .u8))[k]? := by rw [ht]
    rw [List.getElem?_take, if_pos (by omega)] at e
    simpa [List.getD, List.getElem?_eq_getElem (show k < xs.length by omega)] using e

/-- 'string([]byte{..})'. -/
theorem conv_lit (w : World) (C : Array Value) (xs : List Int) (n : Nat) (hn : xs.length = n) (h : C.toList = xs.map (.int .u8)) :
    (convert 43 9 (.slice (some ⟨w.heap.size, 0, none⟩) n n)).run Try.prog (w.alloc (.cells C 5)) = .ok (.string (strOfNums xs)) (w.alloc (.cells C 5)) := by
  refine run_convert_bytes_arg _ _ _ Try.underlying43 Try.underlying5 w.heap.size 0 n n xs hn ?_ _ Try.underlying9
  intro i hi
  rw [Nat.zero_add, World.cell?_alloc_new, ← Array.getElem?_toList, h]
  simp [show i < xs.length by omega]

end Go.Proofs.Ytebhliepncmghaa

namespace Go.Proofs.Ytebhliepncmghaa

/-- The code of an integer as an unsigned number. -/
def zz (v : Int) : Int := if 0 ≤ v then 2 * v else -2 * v - 1
def unzz (u : Int) : Int := if u % 2 = 0 then u / 2 else -(u / 2) - 1

theorem unzz_zz (v : Int) : unzz (zz v) = v := by
  unfold unzz zz
  split <;> split <;> omega
theorem zz_unzz (u : Int) (h : 0 ≤ u) : zz (unzz u) = u := by
  unfold unzz zz
  split <;> split <;> omega
theorem zz_bd (v : Int) (h0 : -9223372036854775808 ≤ v) (h1 : v ≤ 9223372036854775807) : 0 ≤ zz v ∧ zz v < 18446744073709551616 := by
  unfold zz; split <;> omega
theorem unzz_bd (u : Int) (h0 : 0 ≤ u) (h1 : u < 18446744073709551616) : -9223372036854775808 ≤ unzz u ∧ unzz u ≤ 9223372036854775807 := by
  unfold unzz; split <;> omega

/-- 128 to the k-th. -/
def p7 : Nat → Int
  | 0 => 1
  | k + 1 => 128 * p7 k

theorem p7_pos (k : Nat) : 1 ≤ p7 k := by
  induction k with
  | zero => decide
  | succ k ih => simp only [p7]; omega

theorem p7_9 : p7 9 = 9223372036854775808 := by decide

/-- The groups of u, with f + 1 bytes at most. -/
def codF : Nat → Int → List Int
  | 0, u => [u]
  | f + 1, u => if 127 < u then (u % 128 + 128) :: codF f (u / 128) else [u]

def cod (u : Int) : List Int := codF 9 u

theorem codF_big {f : Nat} {u : Int} (h : 127 < u) : codF (f + 1) u = (u % 128 + 128) :: codF f (u / 128) := by rw [codF, if_pos h]
theorem codF_small {f : Nat} {u : Int} (h : u ≤ 127) : codF f u = [u] := by
  cases f with
  | zero => rfl
  | succ f => rw [codF, if_neg (by omega)]

theorem codF_length (f : Nat) (u : Int) : 1 ≤ (codF f u).length ∧ (codF f u).length ≤ f + 1 := by
  induction f generalizing u with
  | zero => simp [codF]
  | succ f ih =>
    have := ih (u / 128)
    simp only [codF]
    split <;> simp <;> omega

theorem div_lt (f : Nat) (u : Int) (h : u < 2 * p7 (f + 1)) : u / 128 < 2 * p7 f := by simp only [p7] at h; omega

theorem codF_bytes (f : Nat) (u : Int) (h0 : 0 ≤ u) (h1 : u < 2 * p7 f) : ∀ x ∈ codF f u, 0 ≤ x ∧ x < 256 := by
  induction f generalizing u with
  | zero => intro x hx; simp only [codF, List.mem_singleton] at hx; subst hx; simp only [p7] at h1; omega
  | succ f ih =>
    intro x hx
    by_cases h : 127 < u
    · rw [codF_big h, List.mem_cons] at hx
      rcases hx with rfl | hx
      · omega
      · exact ih (u / 128) (by omega) (div_lt f u h1) x hx
    · rw [codF_small (by omega), List.mem_singleton] at hx; subst hx; omega

/-- Reading: the error (0 is none), the number, the count of bytes. k bytes have been read, they gave u. -/
def getR (k : Nat) (u : Int) : List Int → Int × Int × Nat
  | [] => (5, 0, 0)
  | b :: r => if k = 9 ∧ 1 < b then (4, 0, 0) else if b < 128 then (if 0 < k ∧ b = 0 then (4, 0, 0) else (0, u + b * p7 k, k + 1)) else getR (k + 1) (u + (b - 128) * p7 k) r

theorem group (u P : Int) : u % 128 * P + u / 128 * (128 * P) = u * P := by
  have h : u % 128 + u / 128 * 128 = u := by omega
  calc u % 128 * P + u / 128 * (128 * P) = u % 128 * P + u / 128 * 128 * P := by rw [Int.mul_assoc]
    _ = (u % 128 + u / 128 * 128) * P := by rw [Int.add_mul]
    _ = u * P := by rw [h]

theorem get_cod (f k : Nat) (acc u : Int) (rest : List Int) (hk : f + k = 9) (h0 : 0 ≤ u) (h1 : u < 2 * p7 f) (h2 : k = 0 ∨ 0 < u) :
    getR k acc (codF f u ++ rest) = (0, acc + u * p7 k, k + (codF f u).length) := by
  induction f generalizing k acc u with
  | zero =>
    simp only [p7] at h1
    rw [codF_small (by omega)]
    simp only [List.cons_append, List.nil_append, getR]
    rw [if_neg (by omega), if_pos (by omega), if_neg (by omega)]
    rfl
  | succ f ih =>
    by_cases h : 127 < u
    · rw [codF_big h]
      simp only [List.cons_append, getR]
      rw [if_neg (by omega), if_neg (by omega), ih (k + 1) _ (u / 128) (by omega) (by omega) (div_lt f u h1) (by omega)]
      simp only [p7, List.length_cons]
      refine Prod.ext rfl (Prod.ext ?_ ?_)
      · simp only
        rw [show u % 128 + 128 - 128 = u % 128 by omega, Int.add_assoc, group]
      · simp only; omega
    · rw [codF_small (by omega)]
      simp only [List.cons_append, List.nil_append, getR]
      rw [if_neg (by omega), if_pos (by omega), if_neg (by omega)]
      rfl

theorem get_short (f k c : Nat) (acc u : Int) (hk : f + k = 9) (h0 : 0 ≤ u) (h1 : u < 2 * p7 f) (hc : c < (codF f u).length) : getR k acc ((codF f u).take c) = (5, 0, 0) := by
  induction f generalizing k acc u c with
  | zero => obtain rfl : c = 0 := by simp only [codF, List.length_singleton] at hc; omega
            rfl
  | succ f ih =>
    cases c with
    | zero => rfl
    | succ c =>
      by_cases h : 127 < u
      · rw [codF_big h] at hc ⊢
        simp only [List.take_succ_cons, getR]
        rw [if_neg (by omega), if_neg (by omega)]
        exact ih (k + 1) c _ (u / 128) (by omega) (by omega) (div_lt f u h1) (by simpa using hc)
      · rw [codF_small (by omega)] at hc
        simp at hc

theorem cod_get (l : List Int) (k n : Nat) (acc U : Int) (hb : ∀ x ∈ l, 0 ≤ x ∧ x < 256) (hk : k ≤ 9) (h : getR k acc l = (0, U, n)) :
    ∃ u, 0 ≤ u ∧ u < 2 * p7 (9 - k) ∧ U = acc + u * p7 k ∧ k < n ∧ n ≤ 10 ∧ n ≤ k + l.length ∧ codF (9 - k) u = l.take (n - k) ∧ (0 < k → 0 < u) := by
  induction l generalizing k acc with
  | nil => simp [getR] at h
  | cons b r ih =>
    have hb0 := hb b (by simp)
    simp only [getR] at h
    by_cases h9 : k = 9 ∧ 1 < b
    · rw [if_pos h9] at h; simp at h
    · rw [if_neg h9] at h
      by_cases hs : b < 128
      · rw [if_pos hs] at h
        by_cases hz : 0 < k ∧ b = 0
        · rw [if_pos hz] at h; simp at h
        · rw [if_neg hz] at h
          simp only [Prod.mk.injEq, true_and] at h
          obtain ⟨hU, hn⟩ := h
          refine ⟨b, hb0.1, ?_, hU.symm, by omega, by omega, by simp; omega, ?_, by omega⟩
          · by_cases hk9 : k = 9
            · subst hk9; simp only [Nat.sub_self, p7]; omega
            · obtain ⟨m, hm⟩ : ∃ m, 9 - k = m + 1 := ⟨8 - k, by omega⟩
              rw [hm]; simp only [p7]; have := p7_pos m; omega
          · rw [codF_small (by omega), ← hn, show k + 1 - k = 1 by omega]; rfl
      · rw [if_neg hs] at h
        have hk9 : k ≠ 9 := by omega
        obtain ⟨u, i1, i2, i3, i4, i5, i6, i7, i8⟩ := ih (k + 1) _ (fun x hx => hb x (by simp [hx])) (by omega) h
        obtain ⟨m, hm⟩ : ∃ m, 9 - k = m + 1 := ⟨8 - k, by omega⟩
        have hm2 : 9 - (k + 1) = m := by omega
        rw [hm2] at i2 i7
        have hup := i8 (by omega)
        refine ⟨(b - 128) + 128 * u, by omega, by rw [hm]; simp only [p7]; omega, ?_, by omega, i5, by simp; omega, ?_, by omega⟩
        · rw [i3, Int.add_assoc]
          congr 1
          simp only [p7]
          rw [Int.add_mul, ← Int.mul_assoc, Int.mul_comm 128 u]
        · rw [hm, codF_big (by omega)]
          have e1 : ((b - 128) + 128 * u) % 128 + 128 = b := by omega
          have e2 : ((b - 128) + 128 * u) / 128 = u := by omega
          rw [e1, e2, i7]
          obtain ⟨j, hj⟩ : ∃ j, n - k = j + 1 := ⟨n - k - 1, by omega⟩
          rw [hj, show n - (k + 1) = j by omega, List.take_succ_cons]

/-- The errors of reading. -/
theorem getR_err (l : List Int) (k : Nat) (acc : Int) : (getR k acc l).1 = 0 ∨ getR k acc l = (4, 0, 0) ∨ getR k acc l = (5, 0, 0) := by
  induction l generalizing k acc with
  | nil => exact .inr (.inr rfl)
  | cons b r ih =>
    simp only [getR]
    split
    · exact .inr (.inl rfl)
    · split
      · split
        · exact .inr (.inl rfl)
        · exact .inl rfl
      · exact ih _ _

/-- The bytes of a string as numbers. -/
def nums (s : ByteArray) : List Int := s.data.toList.map fun b => (b.toNat : Int)

theorem nums_length (s : ByteArray) : (nums s).length = s.size := by simp [nums]
theorem nums_append (a b : ByteArray) : nums (a ++ b) = nums a ++ nums b := by simp [nums]
theorem nums_bytes (s : ByteArray) : ∀ x ∈ nums s, 0 ≤ x ∧ x < 256 := by
  intro x hx
  obtain ⟨b, _, rfl⟩ := List.mem_map.1 hx
  have := b.toNat_lt
  omega

theorem nums_of (l : List Int) (h : ∀ x ∈ l, 0 ≤ x ∧ x < 256) : nums (strOfNums l) = l := by
  induction l with
  | nil => rfl
  | cons x r ih =>
    have hx := h x (by simp)
    have hr := ih fun y hy => h y (by simp [hy])
    simp only [nums, strOfNums, List.map_cons] at hr ⊢
    rw [hr]
    congr 1
    simp only [UInt8.toNat_ofNat']
    omega

/-- GetInt: the number, the index behind it, the error. -/
def getS (s : ByteArray) (at' : Int) : Int × Int × Int :=
  if at' < 0 ∨ (s.size : Int) < at' then (0, at', 3) else
    if (getR 0 0 ((nums s).drop at'.toNat)).1 = 0 then (unzz (getR 0 0 ((nums s).drop at'.toNat)).2.1, at' + (getR 0 0 ((nums s).drop at'.toNat)).2.2, 0) else (0, at', (getR 0 0 ((nums s).drop at'.toNat)).1)

/-- What PutInt adds. -/
def putB (v : Int) : ByteArray := strOfNums (cod (zz v))

theorem zz_lt (v : Int) (h0 : -9223372036854775808 ≤ v) (h1 : v ≤ 9223372036854775807) : 0 ≤ zz v ∧ zz v < 2 * p7 9 := by rw [p7_9]; have := zz_bd v h0 h1; omega

theorem putB_nums (v : Int) (h0 : -9223372036854775808 ≤ v) (h1 : v ≤ 9223372036854775807) : nums (putB v) = cod (zz v) :=
  nums_of _ (codF_bytes 9 _ (zz_lt v h0 h1).1 (zz_lt v h0 h1).2)

theorem putB_size (v : Int) : 1 ≤ (putB v).size ∧ (putB v).size ≤ 10 := by
  have := codF_length 9 (zz v)
  have e : (putB v).size = (cod (zz v)).length := by simp [putB, strOfNums, ByteArray.size]
  rw [e]; exact this

/-- GetInt gives what PutInt was given. -/
theorem get_put (b r : ByteArray) (v : Int) (h0 : -9223372036854775808 ≤ v) (h1 : v ≤ 9223372036854775807) : getS (b ++ putB v ++ r) b.size = (v, (b.size : Int) + (putB v).size, 0) := by
  have hz := zz_lt v h0 h1
  have hd : (nums (b ++ putB v ++ r)).drop ((b.size : Int)).toNat = cod (zz v) ++ nums r := by
    rw [nums_append, nums_append, putB_nums v h0 h1, Int.toNat_natCast, ← nums_length b, List.append_assoc, List.drop_left]
  have hg := get_cod 9 0 0 (zz v) (nums r) rfl hz.1 hz.2 (.inl rfl)
  have hl : (cod (zz v)).length = (putB v).size := by rw [← nums_length, putB_nums v h0 h1]
  rw [getS, if_neg (by simp only [ByteArray.size_append]; omega), hd]
  rw [show getR 0 0 (cod (zz v) ++ nums r) = _ from hg]
  simp only [if_true]
  refine Prod.ext ?_ (Prod.ext ?_ rfl)
  · simp only [p7, Int.mul_one, Int.zero_add]; exact unzz_zz v
  · simp only; rw [show (codF 9 (zz v)).length = _ from hl]; omega

end Go.Proofs.Ytebhliepncmghaa

namespace Go.Proofs.Ytebhliepncmghaa

theorem str_assoc (a b c : ByteArray) : a ++ b ++ c = a ++ (b ++ c) := by
  apply ByteArray.ext; simp [Array.append_assoc]
theorem str_empty (a : ByteArray) : a ++ ByteArray.empty = a := by
  apply ByteArray.ext; simp

def modB (v : Int) : Bool := decide (-1073741824 ≤ v) && decide (v ≤ 1073741824)
theorem modB_iff {v : Int} : modB v = true ↔ -1073741824 ≤ v ∧ v ≤ 1073741824 := by simp [modB]

/-- The codes of the elements behind one that was 'last'. -/
def encL (last : Int) : List Int → ByteArray
  | [] => ByteArray.empty
  | v :: r => putB (v - last) ++ encL v r

/-- PutList behind the number of elements. -/
def putLF (b : ByteArray) (last : Int) : List Int → ByteArray × Int
  | [] => (b, 0)
  | v :: r => if modB v = true then putLF (b ++ putB (v - last)) v r else (ByteArray.empty, 3)

def putListS (b : ByteArray) (l : List Int) : ByteArray × Int := if 4096 < l.length then (ByteArray.empty, 7) else putLF (b ++ putB l.length) 0 l

theorem putLF_ok (l : List Int) (b : ByteArray) (last : Int) (h : ∀ v ∈ l, modB v = true) : putLF b last l = (b ++ encL last l, 0) := by
  induction l generalizing b last with
  | nil => simp [putLF, encL, str_empty]
  | cons v r ih =>
    rw [putLF, if_pos (h v (by simp)), ih _ _ (fun x hx => h x (by simp [hx]))]
    rw [encL, str_assoc]

/-- GetList behind the number of elements: n are left, i is the index. -/
def getLF (s : ByteArray) (at' : Int) : Nat → Int → Int → List Int → List Int × Int × Int
  | 0, i, _, out => (out, i, 0)
  | n + 1, i, last, out =>
    if (getS s i).2.2 ≠ 0 then ([], at', (getS s i).2.2)
    else if (getS s i).1 < -2147483648 ∨ 2147483648 < (getS s i).1 ∨ modB (last + (getS s i).1) = false then ([], at', 4)
    else getLF s at' n (getS s i).2.1 (last + (getS s i).1) (out ++ [last + (getS s i).1])

def getListS (s : ByteArray) (at' : Int) : List Int × Int × Int :=
  if (getS s at').2.2 ≠ 0 then ([], at', (getS s at').2.2)
  else if (getS s at').1 < 0 ∨ 4096 < (getS s at').1 then ([], at', 4)
  else getLF s at' (getS s at').1.toNat (getS s at').2.1 0 []

theorem getLF_back (l : List Int) (b r : ByteArray) (at' last : Int) (out : List Int) (hl : modB last = true) (h : ∀ v ∈ l, modB v = true) :
    getLF (b ++ encL last l ++ r) at' l.length b.size last out = (out ++ l, ((b ++ encL last l).size : Int), 0) := by
  induction l generalizing b last out with
  | nil => simp [getLF, encL, str_empty]
  | cons v l ih =>
    have hv := modB_iff.1 (h v (by simp))
    have hl' := modB_iff.1 hl
    have e : b ++ encL last (v :: l) ++ r = b ++ putB (v - last) ++ (encL v l ++ r) := by simp only [encL, str_assoc]
    have e2 : b ++ putB (v - last) ++ (encL v l ++ r) = (b ++ putB (v - last)) ++ encL v l ++ r := by simp only [str_assoc]
    have hg := get_put b (encL v l ++ r) (v - last) (by omega) (by omega)
    simp only [List.length_cons, getLF]
    rw [e, hg]
    have e3 : last + (v - last) = v := by omega
    simp only [ne_eq, not_true_eq_false, if_false, e3]
    rw [if_neg (by rw [h v (by simp)]; simp; omega)]
    have := ih (b ++ putB (v - last)) v (out ++ [v]) (h v (by simp)) (fun x hx => h x (by simp [hx]))
    rw [e2, show (b.size : Int) + (putB (v - last)).size = ((b ++ putB (v - last)).size : Int) by rw [ByteArray.size_append]; omega, this]
    simp only [List.append_assoc, List.cons_append, List.nil_append, encL, str_assoc]

/-- GetList gives what PutList was given. -/
theorem list_back (b r : ByteArray) (l : List Int) (hn : l.length ≤ 4096) (h : ∀ v ∈ l, modB v = true) :
    putListS b l = (b ++ putB l.length ++ encL 0 l, 0) ∧ getListS (b ++ putB l.length ++ encL 0 l ++ r) b.size = (l, ((b ++ putB l.length ++ encL 0 l).size : Int), 0) := by
  constructor
  · rw [putListS, if_neg (by omega), putLF_ok l _ _ h]
  · have hg := get_put b (encL 0 l ++ r) l.length (by omega) (by omega)
    have e : b ++ putB (l.length : Int) ++ encL 0 l ++ r = b ++ putB (l.length : Int) ++ (encL 0 l ++ r) := by simp only [str_assoc]
    rw [getListS, e, hg]
    simp only [ne_eq, not_true_eq_false, if_false]
    rw [if_neg (by omega), Int.toNat_natCast]
    have := getLF_back l (b ++ putB l.length) r b.size 0 [] (by decide) h
    rw [show (b.size : Int) + (putB (l.length : Int)).size = ((b ++ putB (l.length : Int)).size : Int) by rw [ByteArray.size_append]; omega, ← e]
    rw [this]
    simp

/-- The codes of spans behind one that ended at 'last'. -/
def encS (last : Int) : List Sp → ByteArray
  | [] => ByteArray.empty
  | s :: r => putB (s.1 - last) ++ (putB (s.2.1 - s.1) ++ (putB s.2.2 ++ encS s.2.1 r))

def putSF (b : ByteArray) (last : Int) : List Sp → ByteArray × Int
  | [] => (b, 0)
  | s :: r => if modB s.2.2 = true then putSF (b ++ putB (s.1 - last) ++ putB (s.2.1 - s.1) ++ putB s.2.2) s.2.1 r else (ByteArray.empty, 3)

def putSpansS (b : ByteArray) (l : List Sp) : ByteArray × Int := if validS l = true then putSF (b ++ putB l.length) 0 l else (ByteArray.empty, 1)

theorem putSF_ok (l : List Sp) (b : ByteArray) (last : Int) (h : ∀ s ∈ l, modB s.2.2 = true) : putSF b last l = (b ++ encS last l, 0) := by
  induction l generalizing b last with
  | nil => simp [putSF, encS, str_empty]
  | cons s r ih =>
    rw [putSF, if_pos (h s (by simp)), ih _ _ (fun x hx => h x (by simp [hx]))]
    simp only [encS, str_assoc]

/-- GetSpans behind the number of spans: n are left; 'first': none has been read. -/
def getSF (s : ByteArray) (at' : Int) : Nat → Bool → Int → Int → List Sp → List Sp × Int × Int
  | 0, _, i, _, out => (out, i, 0)
  | n + 1, first, i, last, out =>
    let f := getS s i
    if f.2.2 ≠ 0 then ([], at', f.2.2)
    else if f.1 < 0 ∨ 1114111 - last < f.1 ∨ (first = false ∧ f.1 = 0) then ([], at', 4)
    else
      let t := getS s f.2.1
      if t.2.2 ≠ 0 then ([], at', t.2.2)
      else if t.1 < 0 ∨ 1114111 - (last + f.1) < t.1 then ([], at', 4)
      else
        let v := getS s t.2.1
        if v.2.2 ≠ 0 then ([], at', v.2.2)
        else if modB v.1 = false then ([], at', 4)
        else getSF s at' n false v.2.1 (last + f.1 + t.1) (out ++ [(last + f.1, last + f.1 + t.1, v.1)])

def getSpansS (s : ByteArray) (at' : Int) : List Sp × Int × Int :=
  if (getS s at').2.2 ≠ 0 then ([], at', (getS s at').2.2)
  else if (getS s at').1 < 0 ∨ 256 < (getS s at').1 then ([], at', 4)
  else getSF s at' (getS s at').1.toNat true (getS s at').2.1 0 []

theorem getSF_back (l : List Sp) (b r : ByteArray) (at' last lo : Int) (first : Bool) (out : List Sp) (hl : 0 ≤ last ∧ last ≤ 1114111) (hlo : lo = if first = true then last else last + 1) (ha : ascB lo l = true) (h : ∀ s ∈ l, modB s.2.2 = true) :
    getSF (b ++ encS last l ++ r) at' l.length first b.size last out = (out ++ l, ((b ++ encS last l).size : Int), 0) := by
  induction l generalizing b last lo first out with
  | nil => simp [getSF, encS, str_empty]
  | cons s l ih =>
    obtain ⟨f, t, v⟩ := s
    rw [asc_cons] at ha
    simp only at ha
    have hv := modB_iff.1 (h (f, t, v) (by simp))
    simp only at hv
    have hlast : last ≤ f := by rw [hlo] at ha; split at ha <;> omega
    have hfirst : first = false → last < f := by intro e; rw [hlo, e] at ha; simp at ha; omega
    have e : b ++ encS last ((f, t, v) :: l) ++ r = b ++ putB (f - last) ++ (putB (t - f) ++ (putB v ++ (encS t l ++ r))) := by simp only [encS, str_assoc]
    have e2 : b ++ putB (f - last) ++ (putB (t - f) ++ (putB v ++ (encS t l ++ r))) = (b ++ putB (f - last)) ++ putB (t - f) ++ (putB v ++ (encS t l ++ r)) := by simp only [str_assoc]
    have e3 : b ++ putB (f - last) ++ (putB (t - f) ++ (putB v ++ (encS t l ++ r))) = (b ++ putB (f - last) ++ putB (t - f)) ++ putB v ++ (encS t l ++ r) := by simp only [str_assoc]
    have e4 : b ++ putB (f - last) ++ (putB (t - f) ++ (putB v ++ (encS t l ++ r))) = (b ++ putB (f - last) ++ putB (t - f) ++ putB v) ++ encS t l ++ r := by simp only [str_assoc]
    have g1 := get_put b (putB (t - f) ++ (putB v ++ (encS t l ++ r))) (f - last) (by omega) (by omega)
    have g2 := get_put (b ++ putB (f - last)) (putB v ++ (encS t l ++ r)) (t - f) (by omega) (by omega)
    have g3 := get_put (b ++ putB (f - last) ++ putB (t - f)) (encS t l ++ r) v (by omega) (by omega)
    rw [← e2] at g2
    rw [← e3] at g3
    have s1 : (b.size : Int) + (putB (f - last)).size = ((b ++ putB (f - last)).size : Int) := by rw [ByteArray.size_append]; omega
    have s2 : ((b ++ putB (f - last)).size : Int) + (putB (t - f)).size = ((b ++ putB (f - last) ++ putB (t - f)).size : Int) := by rw [ByteArray.size_append (a := b ++ putB (f - last))]; omega
    have s3 : ((b ++ putB (f - last) ++ putB (t - f)).size : Int) + (putB v).size = ((b ++ putB (f - last) ++ putB (t - f) ++ putB v).size : Int) := by rw [ByteArray.size_append (a := b ++ putB (f - last) ++ putB (t - f))]; omega
    simp only [List.length_cons, getSF]
    rw [e, g1]
    simp only [ne_eq, not_true_eq_false, if_false]
    rw [if_neg (by
      rintro (h1 | h1 | ⟨h1, h2⟩)
      · omega
      · omega
      · have := hfirst h1; omega)]
    rw [s1, g2]
    simp only [ne_eq, not_true_eq_false, if_false]
    rw [if_neg (by omega), s2, g3]
    simp only [ne_eq, not_true_eq_false, if_false]
    rw [if_neg (by rw [modB_iff.2 hv]; simp), s3, e4]
    have := ih (b ++ putB (f - last) ++ putB (t - f) ++ putB v) t (t + 1) false (out ++ [(f, t, v)]) (by omega) (by simp) ha.2.2.2 (fun x hx => h x (by simp [hx]))
    rw [show last + (f - last) = f by omega, show f + (t - f) = t by omega, this]
    simp only [List.append_assoc, List.cons_append, List.nil_append, encS, str_assoc]

/-- GetSpans gives what PutSpans was given. -/
theorem spans_back (b r : ByteArray) (l : List Sp) (hv : validS l = true) (h : ∀ s ∈ l, modB s.2.2 = true) :
    putSpansS b l = (b ++ putB l.length ++ encS 0 l, 0) ∧ getSpansS (b ++ putB l.length ++ encS 0 l ++ r) b.size = (l, ((b ++ putB l.length ++ encS 0 l).size : Int), 0) := by
  have hv0 := hv
  simp only [validS, Bool.and_eq_true, decide_eq_true_eq] at hv
  constructor
  · rw [putSpansS, if_pos hv0, putSF_ok l _ _ h]
  · have hg := get_put b (encS 0 l ++ r) l.length (by omega) (by omega)
    have e : b ++ putB (l.length : Int) ++ encS 0 l ++ r = b ++ putB (l.length : Int) ++ (encS 0 l ++ r) := by simp only [str_assoc]
    rw [getSpansS, e, hg]
    simp only [ne_eq, not_true_eq_false, if_false]
    rw [if_neg (by omega), Int.toNat_natCast]
    have := getSF_back l (b ++ putB l.length) r b.size 0 0 true [] (by omega) rfl hv.2 h
    rw [show (b.size : Int) + (putB (l.length : Int)).size = ((b ++ putB (l.length : Int)).size : Int) by rw [ByteArray.size_append]; omega, ← e]
    rw [this]
    simp

/-- PutInt writes what GetInt accepts. -/
theorem get_unique (t : ByteArray) (v at' : Int) (h : getS t 0 = (v, at', 0)) : 0 < at' ∧ at' ≤ t.size ∧ nums (putB v) = (nums t).take at'.toNat := by
  rw [getS, if_neg (by omega)] at h
  simp only [Int.toNat_zero, List.drop_zero] at h
  by_cases he : (getR 0 0 (nums t)).1 = 0
  · rw [if_pos he] at h
    obtain ⟨⟨er, U, n⟩, hg⟩ : ∃ x, getR 0 0 (nums t) = x := ⟨_, rfl⟩
    rw [hg] at h he
    simp only at h he
    subst he
    simp only [Prod.mk.injEq, and_true] at h
    obtain ⟨h1, h2⟩ := h
    obtain ⟨u, i1, i2, i3, i4, i5, i6, i7, _⟩ := cod_get (nums t) 0 n 0 U (nums_bytes t) (by omega) hg
    simp only [p7, Nat.sub_zero, Int.mul_one, Int.zero_add] at i2 i3 i7
    subst i3
    have hb := unzz_bd U i1 (by have h9 : (2 * p7 9 : Int) = 18446744073709551616 := by decide
                                rw [← h9]; exact i2)
    rw [nums_length] at i6
    refine ⟨by omega, by omega, ?_⟩
    rw [← h1, putB_nums _ hb.1 hb.2, zz_unzz U i1, ← h2]
    simp only [Int.zero_add, Int.toNat_natCast]
    exact i7
  · rw [if_neg he] at h
    simp only [Prod.mk.injEq] at h
    exact absurd h.2.2 he

theorem get_err (t : ByteArray) (at' : Int) (h : (getS t at').2.2 ≠ 0) (h0 : 0 ≤ at') (h1 : at' ≤ t.size) : getS t at' = (0, at', 5) ∨ getS t at' = (0, at', 4) := by
  rw [getS, if_neg (by omega)] at h ⊢
  by_cases he : (getR 0 0 ((nums t).drop at'.toNat)).1 = 0
  · rw [if_pos he] at h; exact absurd rfl h
  · rw [if_neg he]
    rcases getR_err ((nums t).drop at'.toNat) 0 0 with h2 | h2 | h2
    · exact absurd h2 he
    · right; rw [h2]
    · left; rw [h2]

/-- A code that is cut off. -/
theorem get_cut (s t : ByteArray) (v : Int) (c : Nat) (h0 : -9223372036854775808 ≤ v) (h1 : v ≤ 9223372036854775807) (hs : nums t = (nums (putB v)).take c) (hc : c < (putB v).size) : getS t 0 = (0, 0, 5) := by
  have hz := zz_lt v h0 h1
  have hg := get_short 9 0 c 0 (zz v) rfl hz.1 hz.2 (by have := nums_length (putB v); rw [putB_nums v h0 h1] at this; rw [show (codF 9 (zz v)).length = _ from this]; exact hc)
  rw [getS, if_neg (by omega)]
  simp only [Int.toNat_zero, List.drop_zero]
  rw [hs, putB_nums v h0 h1, show getR 0 0 ((cod (zz v)).take c) = _ from hg]
  rfl

end Go.Proofs.Ytebhliepncmghaa

namespace Go.Proofs.Ytebhliepncmghaa
open Go.RowKit

/-- A number of the type int. -/
def IsI (v : Int) : Prop := -9223372036854775808 ≤ v ∧ v ≤ 9223372036854775807
/-- A number of the type uint64. -/
def IsU (u : Int) : Prop := u < 18446744073709551616

theorem zz_words_pos (v : Int) (h0 : 0 ≤ v) (h : IsI v) : IntKind.u64.wrap (IntKind.u64.wrap v * 2) = zz v := by
  obtain ⟨_, h2⟩ := h
  rw [IntKind.wrap_u64, IntKind.wrap_u64]
  unfold zz
  omega

theorem zz_words_neg (v : Int) (h0 : v < 0) (h : IsI v) : bits .xor .u64 IntKind.u64.max (IntKind.u64.wrap (IntKind.u64.wrap v * 2)) = zz v := by
  rw [Lib.zigzag_neg h.1 h0]
  unfold Lib.zigzag zz
  rw [if_neg (by omega), if_neg (by omega)]
  omega

theorem ret_u64 {a b : Int} (h : a = b) : Ending.returned (.int .u64 a) = .returned (.int .u64 b) := by rw [h]
theorem ret_i64' {a b : Int} (h : a = b) : Ending.returned (.int .i64 a) = .returned (.int .i64 b) := by rw [h]
theorem ret_bool {a b : Bool} (h : a = b) : Ending.returned (.bool a) = .returned (.bool b) := by rw [h]

/-- 'int(u >> 1)', and its complement. -/
theorem unzz_words_even (u : Int) (h0 : 0 ≤ u) (h1 : IsU u) (h : u % 2 = 0) : wrap64 (u / 2) = unzz u := by
  unfold IsU at h1
  rw [IntWalk.wrap64_in _ ⟨by omega, by omega⟩]
  unfold unzz; rw [if_pos h]

theorem unzz_words_odd (u : Int) (h0 : 0 ≤ u) (h1 : IsU u) (h : u % 2 ≠ 0) : bits .xor .i64 (-1) (wrap64 (u / 2)) = unzz u := by
  unfold IsU at h1
  rw [IntWalk.wrap64_in _ ⟨by omega, by omega⟩]
  have := Lib.i64_not (u / 2).toNat (by omega)
  rw [show (((u / 2).toNat : Nat) : Int) = u / 2 by omega] at this
  rw [this]
  unfold unzz; rw [if_neg h]

theorem u_and1 (u : Int) (h0 : 0 ≤ u) (h1 : IsU u) : bits .and .u64 u 1 = u % 2 := Lib.u64_and1 u h0 h1

theorem odd_test (u : Int) (h0 : 0 ≤ u) (h1 : IsU u) (h : u % 2 ≠ 0) : (bits .and .u64 u 1 == 1) = true := by
  rw [u_and1 u h0 h1]; simp; omega
theorem even_test (u : Int) (h0 : 0 ≤ u) (h1 : IsU u) (h : u % 2 = 0) : (bits .and .u64 u 1 == 1) = false := by
  rw [u_and1 u h0 h1, h]; rfl

end Go.Proofs.Ytebhliepncmghaa

namespace Go.Proofs.Ytebhliepncmghaa
open Go.RowKit

theorem Try.info5 : (Try.prog.info? 5).map (fun i => (i.zero, i.size, i.bytes)) = some (some (.int .u8 0), 1, 1) := by kernel_rfl

/-- A slice of bytes of the call's own. -/
def OwnB (w : World) (base : Nat) (v : Value) (xs : List Int) : Prop :=
  ∃ g cap cur fz, v = .slice (some ⟨g, 0, none⟩) xs.length cap ∧ base ≤ g ∧ w.heap[g]? = some (.cells cur 5 fz) ∧ (cap ≤ fz.1 ∨ fz.2 = 0) ∧ xs.length ≤ cap ∧ cap ≤ maxLen ∧ cur.size = cap ∧ cur.toList.take xs.length = xs.map (.int .u8)

theorem OwnB.lt {w : World} {B : Nat} {v : Value} {xs : List Int} (h : OwnB w B v xs) : ∀ k, v.ownBlock = some k → B ≤ k ∧ k < w.heap.size := by
  obtain ⟨g, cap, cur, fz, rfl, hb, hg, _⟩ := h
  intro k hk
  simp [Value.ownBlock] at hk
  subst hk
  exact ⟨hb, (Array.getElem?_eq_some_iff.1 hg).1⟩

theorem OwnB.base {w : World} {B : Nat} {v : Value} {xs : List Int} (h : OwnB w B v xs) : ∀ k, v.ownBlock = some k → B ≤ k := fun k hk => (h.lt k hk).1

theorem OwnB.kept {w w' : World} {B : Nat} {v : Value} {xs : List Int} {row : Option Nat} (h : OwnB w B v xs) (hg : w.grownBy w' row) (hne : v.ownBlock ≠ row) : OwnB w' B v xs := by
  obtain ⟨g, cap, cur, fz, rfl, hb, hgg, rest⟩ := h
  refine ⟨g, cap, cur, fz, rfl, hb, ?_, rest⟩
  rw [hg.block g (Array.getElem?_eq_some_iff.1 hgg).1 (by simpa [Value.ownBlock] using hne)]
  exact hgg

theorem OwnB.block {w : World} {B : Nat} {v : Value} {xs : List Int} (h : OwnB w B v xs) : v.ownBlock ≠ none := by
  obtain ⟨g, cap, cur, fz, rfl, _⟩ := h
  simp [Value.ownBlock]

theorem OwnB.alloc {w : World} {B : Nat} {v : Value} {xs : List Int} (h : OwnB w B v xs) (o : Obj) : OwnB (w.alloc o) B v xs := h.kept (World.grownBy_alloc w o none) h.block
theorem OwnB.below {w w' : World} {B : Nat} {v : Value} {xs : List Int} (h : OwnB w B v xs) (hb : Below w.heap.size w w') : OwnB w' B v xs := h.kept (below_grownBy hb none) h.block
theorem OwnB.mono {w : World} {B B' : Nat} {v : Value} {xs : List Int} (h : OwnB w B v xs) (hB : B' ≤ B) : OwnB w B' v xs := by
  obtain ⟨g, cap, cur, fz, hv, hb, rest⟩ := h
  exact ⟨g, cap, cur, fz, hv, Nat.le_trans hB hb, rest⟩

/-- '[]byte(s)'. -/
theorem conv_bytes_own (w : World) (s : ByteArray) (hs : s.size ≤ maxLen) : ∃ v W', (convert 9 43 (.string s)).run Try.prog w = .ok v W' ∧ OwnB W' w.heap.size v (nums s) ∧ Below w.heap.size w W' := by
  have hge := grownCap_ge w s.size 0 5
  have hcm := grownCap_le_maxLen w s.size 0 5 hs
  have hsz : (bytesRow s (grownCap w s.size 0 5)).size = grownCap w s.size 0 5 := by
    have : s.data.size = s.size := rfl
    simp [bytesRow]; omega
  refine ⟨_, _, run_bytes_of_string w _ _ _ s Try.underlying9 Try.underlying43 Try.underlying5, ?_, ?_⟩
  · refine ⟨w.heap.size, grownCap w s.size 0 5, bytesRow s (grownCap w s.size 0 5), _, by rw [nums_length], Nat.le_refl _, heap_alloc_new w.drew _, .inl (by rw [hsz]; exact Nat.le_refl _), by rw [nums_length]; exact hge, hcm, hsz, ?_⟩
    have e : (bytesRow s (grownCap w s.size 0 5)).toList = (nums s).map (.int .u8) ++ List.replicate (grownCap w s.size 0 5 - s.size) (.int .u8 0) := by
      simp [bytesRow, nums]
    rw [e]
    exact List.take_left' (by simp)
  · exact ((Below.refl _ _).drew).alloc (Nat.le_refl _) _

/-- 'string(b)'. -/
theorem conv_ownB {w : World} {B : Nat} {v : Value} {xs : List Int} (h : OwnB w B v xs) : (convert 43 9 v).run Try.prog w = .ok (.string (strOfNums xs)) w := by
  obtain ⟨g, cap, cur, fz, rfl, hB, hg, hf, hn, hc, hs, ht⟩ := h
  refine run_convert_bytes_arg w _ _ Try.underlying43 Try.underlying5 g 0 xs.length cap xs rfl ?_ _ Try.underlying9
  intro k hk
  rw [cell_of_row w g (0 + k) cur _ fz hg, Nat.zero_add]
  have e : (cur.toList.take xs.length)[k]? = (xs.map (Value.int .u8))[k]? := by rw [ht]
  rw [List.getElem?_take, if_pos (by omega)] at e
  simpa [List.getD, List.getElem?_eq_getElem (show k < xs.length by omega)] using e

/-- 'string([]byte{..})'. -/
theorem nextcap_near {need old : Nat} (h : old < need) (hn : need ≤ 140737490452480) : Builtin.nextslicecap need old ≤ 281474976710656 := by
  unfold Builtin.nextslicecap
  split
  · omega
  · split
    · omega
    · rw [growBy_four]
      repeat' split
      all_goals omega

theorem run_append_byte {w : World} (ty base : Nat) (v : Value) (xs : List Int) (hown : OwnB w base v xs) (a : Addr) (c : Nat) (x : Int) (hx : w.cell? a = some (.int .u8 x)) (hlen : xs.length + 1 ≤ 140737490452480) (hbase : base ≤ w.heap.size) :
    ∃ v' w', (Builtin.append_ #[43, 43] ty #[v, .slice (some a) 1 c]).run Try.prog w = .ok v' w' ∧ OwnB w' base v' (xs ++ [x]) ∧ w.grownBy w' v.ownBlock ∧ (v'.ownBlock = v.ownBlock ∨ v'.ownBlock = some w.heap.size) := by
  obtain ⟨g, cap, cur, fz, rfl, hB, hg, hf, hn, hc, hs, ht⟩ := hown
  obtain ⟨i, hi, hz0, hz1, hz2⟩ := info_parts Try.info5
  have hnews : ∀ j u, [Value.int .u8 x][j]? = some u → w.cell? (a.add j) = some u := by
    intro j u hu
    cases j with
    | zero => rw [Addr.add_zero']; rw [hx, ← hu]; rfl
    | succ j => simp at hu
  by_cases hroom : xs.length + 1 ≤ cap
  · have hfz : w.frozen? ⟨g, xs.length, none⟩ = false := by
      obtain ⟨lo, hh⟩ := fz
      simp only [World.frozen?, hg, Bool.and_eq_false_iff, decide_eq_false_iff_not]
      simp only at hf
      omega
    have hl : xs.length < cur.size := by omega
    have hcell : w.cell? ⟨g, xs.length, none⟩ = some cur[xs.length] := by simp [World.cell?, hg, hl]
    have hst : (store ⟨g, xs.length, none⟩ (.int .u8 x)).run Try.prog w = .ok () (w.setRow g (cur.setIfInBounds xs.length (.int .u8 x))) := by
      rw [run_store Try.prog w _ (.int .u8 x) _ rfl, hcell]
      simp [hfz, setCell_eq_setRow w g xs.length cur 5 fz (.int .u8 x) hg]
    have hff := run_firstCells_some (P := Try.prog) w 1 1 a 1 c [.int .u8 x] (by simp) hnews
    refine ⟨.slice (some ⟨g, 0, none⟩) (xs.length + 1) cap, w.setRow g (cur.setIfInBounds xs.length (.int .u8 x)), ?_, ⟨g, cap, _, fz, by simp, hB, setRow_heap w g cur _ _ _ hg, hf, by simpa using hroom, hc, by simpa using hs, ?_⟩, ⟨rfl, rfl, rfl, by simp, fun k _ hk => setRow_other w g k _ (fun e => hk (by simp [Value.ownBlock, e]))⟩, .inl rfl⟩
    · simp [Builtin.append_, run_underlying Try.underlying43, sizeOf, typeInfo, hi, hz1, Builtin.lenOf, hroom, hff, Addr.add_lit, storeCells, hst]
    · have hl2 : xs.length < cur.toList.length := by simpa using hl
      rw [Array.toList_setIfInBounds, List.length_append, List.length_singleton, List.take_succ_eq_append_getElem (by simpa using hl2), List.take_set_of_le (Nat.le_refl _), ht]
      simp
  · have hold : ∀ j u, (xs.map (Value.int .u8))[j]? = some u → w.cell? ((⟨g, 0, none⟩ : Addr).add j) = some u := by
      intro j u hu
      rw [Addr.add_lit, cell_of_row w g (0 + j) cur _ fz hg, Nat.zero_add]
      rw [← ht, List.getElem?_take] at hu
      split at hu
      · simpa using hu
      · cases hu
    have hsm : ((xs.length + 1 : Nat) : Int) ≤ 9223372036854775807 := by omega
    have hfit : Builtin.nextslicecap (xs.length + 1) cap * i.bytes ≤ 281474976710656 := by rw [hz2, Nat.mul_one]; exact nextcap_near (by omega) hlen
    have hr := run_append_grow (P := Try.prog) w 43 ty 5 i _ Try.underlying43 hi hz0 ⟨g, 0, none⟩ xs.length cap (xs.map (.int .u8)) (by simp [hz1]) hold a 1 c [.int .u8 x] (by simp [hz1]) hnews (by omega) hsm hfit
    have hge := grownCap_ge w (xs.length + 1) cap 5
    have hcm := grownCap_le_maxLen w (xs.length + 1) cap 5 (by unfold maxLen; omega)
    refine ⟨_, _, hr, ⟨w.heap.size, _, _, _, by simp, hbase, heap_alloc_new w.drew _, .inr rfl, by simpa using hge, hcm, ?_, ?_⟩, ⟨rfl, rfl, rfl, by simp, fun k hk _ => heap_alloc_old w.drew _ hk⟩, .inr rfl⟩
    · have : (Value.cells (.int .u8 0)).size = 1 := rfl
      simp only [Array.size_append, List.size_toArray, List.length_map, List.length_singleton, size_zeroCells, this]
      omega
    · simp only [Array.toList_append, List.append_assoc]
      rw [← List.append_assoc]
      have e : xs.map (Value.int .u8) ++ [Value.int .u8 x] = (xs ++ [x]).map (Value.int .u8) := by simp
      rw [e]
      exact List.take_left' (by simp)

theorem wpList_append_byte {W : World} {ops : Array Oper} {rest : List Oper} {o : Oper} {a : Act} {Q : Exit → Act → World → Prop} (hgd : o.guard = none) (s x : Operand)
    (ho : o.op = .call { callee := .builtin .append, args := #[s, x], argTypes := #[43, 43] })
    (base : Nat) (v : Value) (xs : List Int) (hs : a.eval s = v) (hown : OwnB W base v xs)
    (y : Int) (c g : Nat) (hx : a.eval x = .slice (some ⟨g, 0, none⟩) 1 c) (hg : g = W.heap.size)
    (hlen : xs.length + 1 ≤ 140737490452480) (hbase : base ≤ W.heap.size)
    (h : ∀ v' w', OwnB w' base v' (xs ++ [y]) → W.grownBy w' v.ownBlock → (∀ b, b < W.heap.size → v.ownBlock ≠ some b → v'.ownBlock ≠ some b) → wpList Try.prog ops Q rest (a.put o.dst v') w') : wpList Try.prog ops Q (o :: rest) a (W.alloc (.cells #[.int .u8 y] 5)) := by
  subst hg
  obtain ⟨v', w', hr, h2, h3, h4⟩ := run_append_byte (w := W.alloc (.cells #[.int .u8 y] 5)) o.type base v xs (hown.alloc _) ⟨W.heap.size, 0, none⟩ c y (by simp [World.cell?_alloc_new]) hlen (by simp; omega)
  refine wpList_plain hgd fun K hK => ?_
  unfold Oper.wp execOp
  simp only [ho, resolve, invoke, builtin, Sem.run_bind, Sem.run_pure, Result.andThen_ok, List.map_toArray, List.map_cons, List.map_nil, hs, hx, hr]
  have hA := World.grownBy_alloc W (.cells #[.int .u8 y] 5) v.ownBlock
  refine hK _ _ (h v' w' h2 ⟨h3.os.trans hA.os, h3.tape.trans hA.tape, h3.output.trans hA.output, Nat.le_trans hA.size h3.size, fun i hi hne => (h3.block i (Nat.lt_of_lt_of_le hi hA.size) hne).trans (hA.block i hi hne)⟩ ?_)
  intro b hb hne
  rcases h4 with e | e
  · rw [e]; exact hne
  · rw [e]; simp; omega

end Go.Proofs.Ytebhliepncmghaa
