/-
  alabel: contracts of the references Lower, ASCII, Label.
  keep.word, keep.Word: the code points of a word, as a function of the argument.
  alabel's statements: awake, and what the walks share.
-/
import Derived.Test.YtmnnpfohjffniaaPkZZE
import Derived.Test.YtmnnpfohjffniaaQPunRefB
import Derived.Test.YtmnnpfohjffniaaQPoints
import Derived.Test.YtmnnpfohjffniaaPkA
import Derived.Test.YtmnnpfohjffniaaQSame
import Derived.Test.YtmnnpfohjffniaaPkG
set_option linter.unusedSimpArgs false
set_option linter.unusedVariables false
namespace Go.Proofs.Ytmnnpfohjffniaa
open Go.RowKit
set_option linter.unusedVariables false

set_option maxHeartbeats 2000000 in
theorem rlower_at (s S : ByteArray) (w : World) (hs : s.size ≤ 140737488355328) (hS : Hid (lowB s = S)) :
    Calls Try.prog 17 #[.string s] w fun e w' => e = .returned (.string S) ∧ Below w.heap.size w w' := by
  obtain ⟨L, hL⟩ : ∃ L, lowS (nums s) = L := ⟨_, rfl⟩
  have HLN : Hid (L.length = s.size) := by unfold Hid; rw [← hL, lowS_len, nums_length]
  have HSV : Hid (strOfNums L = S) := by unfold Hid; rw [← hS.out, ← hL]; rfl
  have HL := Lib.hid hL
  clear hL hS
  go_enter Try.func17, Try.ntmps17
  go_wp2
  go_loopw [3, 4] (fun t i wr => ∃ (k : Nat) (T : ByteArray), k ≤ s.size ∧ i = .int .i64 k ∧ t = .string T ∧ T.size = k ∧ Hid (strOfNums (L.take k) = T) ∧ Hid (Below w.heap.size w wr)) (fun _ i _ => s.size - (intOf i).toNat)
  case atStart => exact ⟨0, ByteArray.mk #[], Nat.zero_le _, rfl, rfl, rfl, rfl, Below.refl _ _⟩
  case round =>
    obtain ⟨k, T, hk, rfl, rfl, hT, ho, hbel⟩ := hrel
    by_cases hlt : k < s.size
    · obtain ⟨c, hcc⟩ : ∃ c : Int, (s[k].toNat : Int) = c := ⟨_, rfl⟩
      have hc0 : 0 ≤ c := by omega
      have hc1 : c ≤ 255 := by have := s[k].toNat_lt; omega
      obtain ⟨y, hy⟩ : ∃ y, lowC c = y := ⟨_, rfl⟩
      have hsn : L.take (k + 1) = L.take k ++ [y] := by
        rw [← HL.out, lowS_snoc _ k (by rw [nums_length]; exact hlt), pnums_getD s k hlt, hcc, hy]
      obtain ⟨Y, hY⟩ : ∃ Y, strOfNums [y] = Y := ⟨_, rfl⟩
      have hYs : Y.size = 1 := by rw [← hY, strOfNums_size]; rfl
      have hcv := conv_lit wr #[.int .u8 y] [y] 1 rfl rfl
      rw [hY] at hcv
      have HT2 : Hid (strOfNums (L.take (k + 1)) = T ++ Y) := by unfold Hid; rw [hsn, pstrOf_append, ho.out, hY]
      have HTY : Hid ((T ++ Y).size = k + 1) := by unfold Hid; rw [ByteArray.size_append, hYs, hT]
      have HB2 := Lib.hid (hbel.out.alloc hbel.out.size (.cells #[.int .u8 y] 5))
      have HY := Lib.hid hy
      clear hsn hY ho hbel hy
      rcases (show c < 65 ∨ (65 ≤ c ∧ c ≤ 90) ∨ (¬ c < 65 ∧ 90 < c) by omega) with h | ⟨h2, h3⟩ | ⟨h2, h3⟩
      · have hyc : c = y := by rw [← HY.out]; unfold lowC; rw [if_neg (by omega)]
        subst hyc
        have hn : ¬ 65 ≤ c := by omega
        go_wp2
        go_roundw
        case rel => exact ⟨k + 1, T ++ Y, by omega, by go_num, rfl, HTY.out, HT2, HB2⟩
        case measure => simp [intOf]; omega
      · have hw2 : IntKind.u8.wrap (c + 32) = y := by rw [← HY.out]; unfold lowC; rw [if_pos (by omega), IntKind.wrap_u8]; omega
        go_wp2
        go_roundw
        case rel => exact ⟨k + 1, T ++ Y, by omega, by go_num, rfl, HTY.out, HT2, HB2⟩
        case measure => simp [intOf]; omega
      · have hyc : c = y := by rw [← HY.out]; unfold lowC; rw [if_neg (by omega)]
        subst hyc
        have hn : ¬ c ≤ 90 := by omega
        have hn2 : 65 ≤ c := by omega
        go_wp2
        go_roundw
        case rel => exact ⟨k + 1, T ++ Y, by omega, by go_num, rfl, HTY.out, HT2, HB2⟩
        case measure => simp [intOf]; omega
    · obtain rfl : k = s.size := by omega
      have HE : Hid (T = S) := by
        have h1 := ho.out
        rw [List.take_of_length_le (by rw [HLN.out]; exact Nat.le_refl _)] at h1
        unfold Hid; rw [← h1, HSV.out]
      clear ho
      go_wp2
      go_ret
      exact ⟨by rw [← HE.out]; rfl, hbel.out⟩

set_option maxHeartbeats 1000000 in
theorem rascii_at (p : Option Addr) (n cap : Nat) (l : List Int) (B : Bool) (w : World) (hin : IntsIn w p l) (hn : Hid (l.length = n)) (hn2 : n ≤ 17592186043904) (hB : Hid (ascQ l = B)) :
    Calls Try.prog 14 #[.slice p n cap] w fun e w' => e = .returned (.bool B) ∧ w' = w := by
  have HI := Lib.hid hin
  clear hin
  go_enter Try.func14, Try.ntmps14
  go_wp2
  go_loopw [7] (fun i wr => ∃ k : Nat, k ≤ n ∧ i = .int .i64 k ∧ Hid (∀ j, j < k → 0 ≤ l.getD j 0 ∧ l.getD j 0 ≤ 127) ∧ wr = w) (fun i _ => n - (intOf i).toNat)
  case atStart => exact ⟨0, Nat.zero_le _, rfl, fun j hj => by omega, rfl⟩
  case round =>
    obtain ⟨k, hk, rfl, hall, rfl⟩ := hrel
    by_cases hlt : k < n
    · have hkl : k < l.length := by rw [hn.out]; exact hlt
      obtain ⟨b, off, rfl, hck⟩ := HI.out k hkl
      obtain ⟨x, hx⟩ : ∃ x, l.getD k 0 = x := ⟨_, rfl⟩
      rw [hx] at hck
      rcases (show x < 0 ∨ (¬ x < 0 ∧ 127 < x) ∨ (¬ x < 0 ∧ ¬ 127 < x) by omega) with h | ⟨h, h2⟩ | ⟨h, h2⟩
      · have HB : Hid (B = false) := by unfold Hid; rw [← hB.out]; exact ascQ_bad hkl (by rw [hx]; exact .inl h)
        clear hx hkl hall hB
        go_wp2
        go_ret
        exact ⟨by rw [HB.out]; rfl, rfl⟩
      · have HB : Hid (B = false) := by unfold Hid; rw [← hB.out]; exact ascQ_bad hkl (by rw [hx]; exact .inr h2)
        clear hx hkl hall hB
        go_wp2
        go_ret
        exact ⟨by rw [HB.out]; rfl, rfl⟩
      · have HA : Hid (∀ j, j < k + 1 → 0 ≤ l.getD j 0 ∧ l.getD j 0 ≤ 127) := fun j hj => by
          by_cases e : j = k
          · subst e; rw [hx]; omega
          · exact hall.out j (by omega)
        clear hx hkl hall
        go_wp2
        go_roundw
        case rel => exact ⟨k + 1, by omega, by go_num, HA, by first | rfl | trivial⟩
        case measure => simp [intOf]; omega
    · obtain rfl : k = n := by omega
      have HB : Hid (B = true) := by unfold Hid; rw [← hB.out]; exact ascQ_ok (fun j hj => hall.out j (by rw [← hn.out]; exact hj))
      clear hall hB
      go_wp2
      go_ret
      exact ⟨by rw [HB.out]; rfl, rfl⟩

set_option maxHeartbeats 4000000 in
theorem rlab_at (p : Option Addr) (n cap : Nat) (l X : List Int) (er : Int) (S : ByteArray) (w : World) (hin : IntsIn w p l) (hn : Hid (l.length = n)) (hn2 : n ≤ 17592186043904) (hE : Hid (labS l = (X, er))) (hS : Hid (strOfNums X = S)) :
    Calls Try.prog 11 #[.slice p n cap] w (StrErr S er w) := by
  have HI := Lib.hid hin
  clear hin
  by_cases h0 : n = 0
  · have hl0 : l = [] := List.eq_nil_of_length_eq_zero (by rw [hn.out]; exact h0)
    have hE' := hE.out
    rw [hl0, labS_nil] at hE'
    injection hE' with e1 e2
    subst e1; subst e2
    have HS : Hid (S = ByteArray.mk #[]) := hS.out.symm
    subst h0
    clear hE hS
    go_enter Try.func11, Try.ntmps11
    go_wp2
    go_ret2
    exact ⟨by rw [HS.out]; rfl, Below.refl _ _⟩
  have hne : l ≠ [] := fun e => h0 (by rw [← hn.out, e]; rfl)
  have d0 : ((n : Int) == 0) = false := by simp; omega
  cases ha : ascQ l with
  | true =>
    have HA := Lib.hid ha
    have HE : Hid (longE l = (X, er)) := by unfold Hid; rw [← labS_asc hne ha]; exact hE.out
    clear hE ha hne
    go_enter Try.func11, Try.ntmps11
    go_wp2_with fail
    refine (rascii_at p n cap l true _ HI.out hn hn2 HA).mono ?_
    rintro e w1 ⟨rfl, rfl⟩
    go_wp2
    go_loopw [4, 16] (fun t i wr => ∃ (k : Nat) (T : ByteArray), k ≤ n ∧ i = .int .i64 k ∧ t = .string T ∧ T.size = k ∧ Hid (strOfNums (l.take k) = T) ∧ Hid (Below w1.heap.size w1 wr)) (fun _ i _ => n - (intOf i).toNat)
    case atStart => exact ⟨0, ByteArray.mk #[], Nat.zero_le _, rfl, rfl, rfl, rfl, Below.refl _ _⟩
    case round =>
      obtain ⟨k, T, hk, rfl, rfl, hT, ho, hbel⟩ := hrel
      by_cases hlt : k < n
      · have hkl : k < l.length := by rw [hn.out]; exact hlt
        obtain ⟨b, off, rfl, hck⟩ := (HI.out.below hbel.out) k hkl
        obtain ⟨x, hx⟩ : ∃ x, l.getD k 0 = x := ⟨_, rfl⟩
        obtain ⟨hx0, hx1⟩ := ascQ_at HA.out hkl
        rw [hx] at hck hx0 hx1
        have hw : IntKind.u8.wrap x = x := by rw [IntKind.wrap_u8]; omega
        have hsn : l.take (k + 1) = l.take k ++ [x] := by rw [take_snoc_int l k hkl, hx]
        obtain ⟨Y, hY⟩ : ∃ Y, strOfNums [x] = Y := ⟨_, rfl⟩
        have hYs : Y.size = 1 := by rw [← hY, strOfNums_size]; rfl
        have hcv := conv_lit wr #[.int .u8 x] [x] 1 rfl rfl
        rw [hY] at hcv
        have HT2 : Hid (strOfNums (l.take (k + 1)) = T ++ Y) := by unfold Hid; rw [hsn, pstrOf_append, ho.out, hY]
        have HTY : Hid ((T ++ Y).size = k + 1) := by unfold Hid; rw [ByteArray.size_append, hYs, hT]
        have HB2 := Lib.hid (hbel.out.alloc hbel.out.size (.cells #[.int .u8 x] 5))
        clear hsn hY ho hbel hx hkl
        go_wp2
        go_roundw
        case rel => exact ⟨k + 1, T ++ Y, by omega, by go_num, rfl, HTY.out, HT2, HB2⟩
        case measure => simp [intOf]; omega
      · obtain rfl : k = n := by omega
        have HTL : Hid (strOfNums l = T) := by
          have h1 := ho.out
          rwa [List.take_of_length_le (by rw [hn.out]; exact Nat.le_refl _)] at h1
        have hE' := HE.out
        unfold longE at hE'
        rw [hn.out] at hE'
        clear ho HE
        by_cases hbig : 63 < k
        · rw [if_pos hbig] at hE'
          injection hE' with e1 e2
          subst e1; subst e2
          have HS : Hid (S = ByteArray.mk #[]) := hS.out.symm
          have HBB := Lib.hid hbel.out
          have hbt : 63 < T.size := by omega
          clear hS
          go_wp2
          go_ret2
          exact ⟨by rw [HS.out]; rfl, HBB.out⟩
        · rw [if_neg hbig] at hE'
          injection hE' with e1 e2
          subst e1; subst e2
          have HS : Hid (T = S) := by unfold Hid; rw [← HTL.out, hS.out]
          have HBB := Lib.hid hbel.out
          have hbt : ¬ 63 < T.size := by omega
          clear hS
          go_wp2
          go_ret2
          exact ⟨by rw [← HS.out]; rfl, HBB.out⟩
  | false =>
    have HA := Lib.hid ha
    obtain ⟨Y, f, hY⟩ : ∃ Y f, encP l = (Y, f) := ⟨_, _, rfl⟩
    obtain ⟨T, hT⟩ : ∃ T, strOfNums Y = T := ⟨_, rfl⟩
    have HY := Lib.hid hY
    have HT := Lib.hid hT
    have hTs : T.size ≤ 4096 := by rw [← hT, strOfNums_size]; exact (encP_byteA hY).2
    by_cases hf : f = 0
    · subst hf
      have hE' := hE.out
      rw [labS_enc hne ha hY] at hE'
      unfold longE at hE'
      have hxl : (xnS ++ Y).length = 4 + T.size := by rw [← hT, strOfNums_size]; simp [xnS]; omega
      rw [hxl] at hE'
      have HXT : Hid (ByteArray.mk #[120, 110, 45, 45] ++ T = strOfNums (xnS ++ Y)) := by unfold Hid; rw [← hT]; exact xn_front Y
      have HXS : Hid ((ByteArray.mk #[120, 110, 45, 45] ++ T).size = 4 + T.size) := by unfold Hid; rw [ByteArray.size_append]; rfl
      have h45 : (ByteArray.mk #[120, 110, 45, 45]).size = 4 := rfl
      by_cases hbig : 63 < 4 + T.size
      · rw [if_pos hbig] at hE'
        injection hE' with e1 e2
        subst e1; subst e2
        have HS : Hid (S = ByteArray.mk #[]) := hS.out.symm
        have hbig2 : (63 : Int) < 4 + (T.size : Int) := by omega
        have hbig3 : (63 : Int) < ((4 + T.size : Nat) : Int) := by omega
        clear hE ha hne hY hT hS hxl
        go_enter Try.func11, Try.ntmps11
        go_wp2_with fail
        refine (rascii_at p n cap l false _ HI.out hn hn2 HA).mono ?_
        rintro e w1 ⟨rfl, rfl⟩
        go_wp2_with fail
        refine (rencode_at p n cap l Y 0 T _ HI.out hn hn2 HY HT).mono ?_
        rintro e w2 ⟨rfl, hb2⟩
        go_wp2
        go_ret2
        exact ⟨by rw [HS.out]; rfl, hb2⟩
      · rw [if_neg hbig] at hE'
        injection hE' with e1 e2
        subst e2
        have HS : Hid (ByteArray.mk #[120, 110, 45, 45] ++ T = S) := by
          unfold Hid; rw [← hS.out, ← e1]; exact HXT.out
        have hbig2 : ¬ (63 : Int) < 4 + (T.size : Int) := by omega
        clear hE ha hne hY hT hS hxl e1
        go_enter Try.func11, Try.ntmps11
        go_wp2_with fail
        refine (rascii_at p n cap l false _ HI.out hn hn2 HA).mono ?_
        rintro e w1 ⟨rfl, rfl⟩
        go_wp2_with fail
        refine (rencode_at p n cap l Y 0 T _ HI.out hn hn2 HY HT).mono ?_
        rintro e w2 ⟨rfl, hb2⟩
        go_wp2
        go_ret2
        exact ⟨by rw [← HS.out]; rfl, hb2⟩
    · have hE' := hE.out
      rw [labS_err hne ha hY hf] at hE'
      injection hE' with e1 e2
      subst e1; subst e2
      have HS : Hid (S = ByteArray.mk #[]) := hS.out.symm
      have d1 : (f != 0) = true := by simp [hf]
      clear hE ha hne hY hT hS
      go_enter Try.func11, Try.ntmps11
      go_wp2_with fail
      refine (rascii_at p n cap l false _ HI.out hn hn2 HA).mono ?_
      rintro e w1 ⟨rfl, rfl⟩
      go_wp2_with fail
      refine (rencode_at p n cap l Y f T _ HI.out hn hn2 HY HT).mono ?_
      rintro e w2 ⟨rfl, hb2⟩
      go_wp2
      go_ret2
      exact ⟨by rw [HS.out]; rfl, hb2⟩

end Go.Proofs.Ytmnnpfohjffniaa

namespace Go.Proofs.Ytmnnpfohjffniaa
open Go.RowKit
set_option linter.unusedVariables false

def wdP : List Int := [97, 98, 109, 110, 111, 114, 48, 120, 121]
def wdQ : List Int := [769, 803, 945, 946, 1072, 1488, 1576, 1632, 7680, 7681, 7682, 19968, 44032, 8204, 2381]
/-- One code point, and what is left of the source. -/
def wdA (r : List Int) : Int × List Int :=
  if nextV r 2 = 0 then (wdP.getD (nextV r.tail 9).toNat 0, r.tail.tail) else (wdQ.getD (nextV r.tail 15).toNat 0, r.tail.tail)
def wdL : Nat → List Int → List Int
  | 0, _ => []
  | k + 1, r => (wdA r).1 :: wdL k (wdA r).2
def wordF (zs : List Int) : List Int := wdL (1 + (nextV zs 6).toNat) zs.tail

theorem wdL_len : ∀ (k : Nat) (r : List Int), (wdL k r).length = k
  | 0, _ => rfl
  | k + 1, r => by simp [wdL, wdL_len k]
theorem wordF_len (zs : List Int) : 1 ≤ (wordF zs).length ∧ (wordF zs).length ≤ 6 := by
  have := nextV_bd zs 6 (by omega)
  unfold wordF
  rw [wdL_len]; omega
theorem wdA_mem (r : List Int) : (wdA r).1 ∈ wdP ∨ (wdA r).1 ∈ wdQ := by
  unfold wdA
  split
  · left
    obtain ⟨q, hq⟩ : ∃ q : Nat, nextV r.tail 9 = q := ⟨(nextV r.tail 9).toNat, by have := nextV_bd r.tail 9 (by omega); omega⟩
    have hq9 : q < 9 := by have := nextV_bd r.tail 9 (by omega); omega
    rw [hq, Int.toNat_natCast]
    have : ∀ q, q < 9 → wdP.getD q 0 ∈ wdP := by decide +kernel
    exact this q hq9
  · right
    obtain ⟨q, hq⟩ : ∃ q : Nat, nextV r.tail 15 = q := ⟨(nextV r.tail 15).toNat, by have := nextV_bd r.tail 15 (by omega); omega⟩
    have hq9 : q < 15 := by have := nextV_bd r.tail 15 (by omega); omega
    rw [hq, Int.toNat_natCast]
    have : ∀ q, q < 15 → wdQ.getD q 0 ∈ wdQ := by decide +kernel
    exact this q hq9
theorem wdL_mem : ∀ (k : Nat) (r : List Int), ∀ c ∈ wdL k r, c ∈ wdP ∨ c ∈ wdQ
  | 0, _, c, h => by cases h
  | k + 1, r, c, h => by
    rw [wdL] at h
    rcases List.mem_cons.1 h with h | h
    · rw [h]; exact wdA_mem r
    · exact wdL_mem k _ c h
theorem wordF_mem (zs : List Int) : ∀ c ∈ wordF zs, c ∈ wdP ∨ c ∈ wdQ := wdL_mem _ _

theorem kw_next (g : Nat) (r : List Int) (n v : Int) (w : World) (hs : Src w g r) (h0 : 1 ≤ n) (h1 : n ≤ 1073741824) (hv : Hid (nextV r n = v)) :
    Calls Try.prog 21 #[.pointer (some ⟨g, 0, none⟩), .int .i64 n] w (NextPost g v r.tail w) := hv.out ▸ next_any g r n w hs h0 h1

def WordOne (g : Nat) (c : Int) (r : List Int) (w : World) (e : Ending) (w' : World) : Prop :=
  e = .returned (.int .i64 c) ∧ Src w' g r ∧ w.grownBy w' (some g)

theorem kwlit : ∀ q (h : q < 9), (((ByteArray.mk #[97, 98, 109, 110, 111, 114, 48, 120, 121])[q]'(h)).toNat : Int) = wdP.getD q 0 ∧ 0 ≤ wdP.getD q 0 ∧ wdP.getD q 0 ≤ 127 := by decide +kernel

set_option maxHeartbeats 1000000 in
theorem kword_at (g : Nat) (r r' : List Int) (c : Int) (w : World) (hs : Src w g r) (hA : Hid (wdA r = (c, r'))) :
    Calls Try.prog 22 #[.pointer (some ⟨g, 0, none⟩)] w (WordOne g c r' w) := by
  have HS := Lib.hid hs
  have hg : g < w.heap.size := by obtain ⟨_, _, _, _, _, _, _, h4, _⟩ := hs; exact World.block_lt_of_cell? w _ h4
  clear hs
  obtain ⟨v0, v1⟩ := nextV_bd r 2 (by omega)
  have hv : nextV r 2 = 0 ∨ nextV r 2 = 1 := by omega
  clear v0 v1
  rcases hv with hv | hv
  · have hA' := hA.out
    unfold wdA at hA'
    rw [if_pos hv] at hA'
    injection hA' with e1 e2
    obtain ⟨q, hq⟩ : ∃ q : Nat, nextV r.tail 9 = q := ⟨(nextV r.tail 9).toNat, by have := nextV_bd r.tail 9 (by omega); omega⟩
    have hq12 : q < 9 := by have := nextV_bd r.tail 9 (by omega); omega
    rw [hq, Int.toNat_natCast] at e1
    obtain ⟨k1, k2, k3⟩ := kwlit q hq12
    rw [e1] at k1 k2 k3
    have HV := Lib.hid hv
    have HQ := Lib.hid hq
    have HR := Lib.hid e2
    obtain ⟨y, hy⟩ : ∃ y : Int, (((ByteArray.mk #[97, 98, 109, 110, 111, 114, 48, 120, 121])[q]'(hq12)).toNat : Int) = y := ⟨_, rfl⟩
    have HY : Hid (y = c) := by unfold Hid; rw [← hy, k1]
    have hy0 : 0 ≤ y := by have := HY.out; omega
    have hy1 : y ≤ 127 := by have := HY.out; omega
    clear hA hq e1 e2 hv k1 k2 k3
    go_enter Try.func22, Try.ntmps22
    go_wp2_with fail
    refine (kw_next g r 2 _ _ HS.out (by omega) (by omega) HV).mono ?_
    rintro e w2 ⟨rfl, hs2, hg2⟩
    have HS2 := Lib.hid hs2
    have HG2 := Lib.hid hg2
    clear hs2 hg2
    go_wp2_with fail
    refine (kw_next g r.tail 9 q _ HS2.out (by omega) (by omega) HQ).mono ?_
    rintro e w3 ⟨rfl, hs3, hg3⟩
    have HS3 := Lib.hid hs3
    have HG3 := Lib.hid (grownBy_trans HG2.out hg3)
    clear hs3 hg3
    go_wp2
    go_ret
    exact ⟨by rw [HY.out]; rfl, by rw [← HR.out]; exact HS3.out, HG3.out⟩
  · have hA' := hA.out
    unfold wdA at hA'
    rw [if_neg (by omega)] at hA'
    injection hA' with e1 e2
    obtain ⟨q, hq⟩ : ∃ q : Nat, nextV r.tail 15 = q := ⟨(nextV r.tail 15).toNat, by have := nextV_bd r.tail 15 (by omega); omega⟩
    have hq15 : q < 15 := by have := nextV_bd r.tail 15 (by omega); omega
    rw [hq, Int.toNat_natCast] at e1
    have HV := Lib.hid hv
    have HQ := Lib.hid hq
    have HR := Lib.hid e2
    have HE1 := Lib.hid e1
    clear hA hq e1 e2 hv
    go_enter Try.func22, Try.ntmps22
    go_wp2_with fail
    refine (kw_next g r 2 _ _ HS.out (by omega) (by omega) HV).mono ?_
    rintro e w2 ⟨rfl, hs2, hg2⟩
    have HS2 := Lib.hid hs2
    have HG2 := Lib.hid hg2
    clear hs2 hg2
    go_wp2_with fail
    refine (kw_next g r.tail 15 q _ (HS2.out.alloc _) (by omega) (by omega) HQ).mono ?_
    rintro e w3 ⟨rfl, hs3, hg3⟩
    obtain ⟨_, _, hbe, hck⟩ := ((ints_lit_new w2 #[.int .i64 769, .int .i64 803, .int .i64 945, .int .i64 946, .int .i64 1072, .int .i64 1488, .int .i64 1576, .int .i64 1632, .int .i64 7680, .int .i64 7681, .int .i64 7682, .int .i64 19968, .int .i64 44032, .int .i64 8204, .int .i64 2381] wdQ _ rfl).grown hg3 (by intro b off e; cases e; have := HG2.out.size; omega)) q hq15
    cases hbe
    rw [HE1.out, Nat.zero_add] at hck
    have HS3 := Lib.hid hs3
    have HG3 := Lib.hid (grownBy_trans (grownBy_trans HG2.out (World.grownBy_alloc _ _ _)) hg3)
    clear hs3 hg3
    go_wp2
    go_ret
    exact ⟨rfl, by rw [← HR.out]; exact HS3.out, HG3.out⟩

/-- What 'Word' leaves: a new slice. -/
def WordPost (xs : List Int) (w : World) (e : Ending) (w' : World) : Prop :=
  ∃ v, e = .returned v ∧ Ints w' w.heap.size v xs ∧ Below w.heap.size w w'

set_option maxHeartbeats 1000000 in
theorem kwordsN_at (p : Option Addr) (n cap : Nat) (zs xs : List Int) (w : World) (hin : IntsIn w p zs) (hn : Hid (zs.length = n)) (hl : n ≤ 17592186043904) (hX : Hid (wordF zs = xs)) :
    Calls Try.prog 8 #[.slice p n cap] w (WordPost xs w) := by
  have HI := Lib.hid hin
  clear hin
  obtain rfl := hn.out
  obtain ⟨v0, v1⟩ := nextV_bd zs 6 (by omega)
  obtain ⟨m, hm⟩ : ∃ m : Nat, nextV zs 6 = m := ⟨(nextV zs 6).toNat, by omega⟩
  have hm5 : m ≤ 5 := by omega
  have HN := Lib.hid hm
  have HX : Hid (wdL (1 + m) zs.tail = xs) := by unfold Hid; rw [← hX.out, wordF, hm]; rfl
  clear v0 v1 hm hX
  obtain ⟨i0, hi, hz0, hz1, hz2⟩ := info_parts Try.info3
  go_enter Try.func8, Try.ntmps8
  go_wp2_with fail
  refine (from_any p cap zs _ HI.out hl).mono ?_
  rintro e w1 ⟨g, rfl, hg, hs1, hb1⟩
  have HS1 := Lib.hid hs1
  have HB1 := Lib.hid hb1
  clear hs1 hb1
  go_wp2_with fail
  refine (kw_next g zs 6 m _ HS1.out (by omega) (by omega) HN).mono ?_
  rintro e w2 ⟨rfl, hs2, hg2⟩
  have hb2 : Below w.heap.size w w2 := HB1.out.grown hg2 HB1.out.size (by intro k e; cases e; exact hg)
  have HS2 := Lib.hid hs2
  have HB2 := Lib.hid hb2
  clear hs2 hb2 hg2
  go_wp2
  go_loopw [4, 5] (fun v u wr => ∃ k : Nat, ∃ ys : List Int, ∃ r : List Int, k ≤ 6 ∧ u = .int .i64 k ∧ ys.length + k ≤ 6 ∧ Hid (ys ++ wdL k r = xs) ∧ Hid (Src wr g r) ∧ Hid (Ints wr (g + 1) v ys) ∧ Hid (g < wr.heap.size) ∧ Hid (Below w.heap.size w wr)) (fun _ u _ => (intOf u).toNat)
  case atStart => exact ⟨1 + m, [], zs.tail, by omega, by go_num, by simp; omega, HX, HS2, Ints.nil _ _, by obtain ⟨_, _, _, _, _, _, _, h4, _⟩ := HS2.out; exact World.block_lt_of_cell? w2 _ h4, HB2⟩
  case round =>
    obtain ⟨k, ys, r, hk, rfl, hxk, ha, hs, hown, hgl, hbel⟩ := hrel
    by_cases h0 : 0 < k
    · obtain ⟨j, rfl⟩ : ∃ j, k = j + 1 := ⟨k - 1, by omega⟩
      have hgl' := hgl.out
      obtain ⟨c, r', hA⟩ : ∃ c r', wdA r = (c, r') := ⟨_, _, rfl⟩
      have HA := Lib.hid hA
      have HE : Hid ((ys ++ [c]) ++ wdL j r' = xs) := by
        have h1 := ha.out
        unfold Hid
        rw [wdL, hA] at h1
        rw [← h1]; simp
      clear hA ha
      go_wp2_with fail
      refine (kword_at g r r' c _ hs.out HA).mono ?_
      rintro e w3 ⟨rfl, hs3, hg3⟩
      have hown3 : w3.ownsRow (g + 1) 3 1 u4 ys.length (ys.map (.int .i64)) := hown.out.kept hg3 (by
        cases hv : Value.ownBlock u4 with
        | none => simp
        | some b => have := (hown.out.lt b hv).1; simp; omega)
      have hbel3 : Below w.heap.size w w3 := hbel.out.grown hg3 hbel.out.size (by intro j e; cases e; exact hg)
      have HS3 := Lib.hid hs3
      have HB3 := Lib.hid hbel3
      have hz3 := hg3.size
      clear hs3 hg3 hbel3
      go_wp2_with (at_builtin; refine wpList_append_own _ rfl _ _ 22 rfl (g + 1) 3 i0 (.int .i64 0) 1 8 Try.underlying22 hi hz0 hz1 hz2 rfl (by decide) _ _ _ rfl (hown3.alloc _) ⟨_, 0, none⟩ 1 1 [.int .i64 c] rfl rfl (cell_one_new _ _ _) ?c2 ?c3 ?c4 ?c5 ?_)
      case c2 => intro u hu; simp at hu; subst hu; rfl
      case c3 => unfold maxLen; omega
      case c4 => omega
      case c5 => simp; omega
      intro v' w4 hown4 hg4 _
      have hz4 := hg4.size
      have hI : Ints w4 (g + 1) v' (ys ++ [c]) := by unfold Ints; simpa using hown4
      have hB : Below w.heap.size w w4 := (HB3.out.alloc HB3.out.size _).grown hg4 (by have := HB3.out.size; simp; omega) (fun j hj => by have := (hown3.lt j hj).1; omega)
      have hS : Src w4 g r' := (HS3.out.alloc _).grown hg4 (fun j hj => by have := (hown3.lt j hj).1; omega)
      have HI2 := Lib.hid hI
      have HB := Lib.hid hB
      have HS := Lib.hid hS
      have hgw : g < w4.heap.size := by simp at hz4; omega
      have HG := Lib.hid hgw
      clear hI hB hS hgw hown4 hg4 hown3 hz4
      go_wp2
      go_roundw
      case rel => exact ⟨j, ys ++ [c], r', by omega, by go_num, by simp; omega, HE, HS, HI2, HG, HB⟩
      case measure => simp [intOf]
    · obtain rfl : k = 0 := by omega
      have HE : Hid (ys = xs) := by
        have := ha.out
        simp [wdL] at this
        exact this
      have HO : Hid (Ints wr w.heap.size u4 xs) := by rw [← HE.out]; exact ownsRow_mono hown.out (by omega)
      have HB2 := Lib.hid hbel.out
      clear ha hown hbel
      go_wp2
      go_ret
      exact ⟨_, rfl, HO.out, HB2.out⟩

end Go.Proofs.Ytmnnpfohjffniaa

namespace Go.Proofs.Ytmnnpfohjffniaa
open Go.RowKit
set_option linter.unusedVariables false

theorem ints_cells11 (w : World) (C : Array Value) (xs : List Int) (t : TypeId) (h : C.toList = xs.map (.int .i64)) : IntsIn (w.alloc (.cells C t)) (some ⟨w.heap.size, 0, none⟩) xs := by
  intro k hk
  refine ⟨_, _, rfl, ?_⟩
  rw [Nat.zero_add, World.cell?_alloc_new, ← Array.getElem?_toList, h]
  simp [hk]

set_option maxHeartbeats 1000000 in
theorem awake11_any (w : World) : Calls Try.prog 12 #[] w fun e w' => e = .returned (.bool true) ∧ Below w.heap.size w w' := by
  have h1 : Hid (labS [98, 252, 99, 104, 101, 114] = ([120, 110, 45, 45, 98, 99, 104, 101, 114, 45, 107, 118, 97], 0)) := by unfold Hid; decide +kernel
  have h2 : Hid (strOfNums [120, 110, 45, 45, 98, 99, 104, 101, 114, 45, 107, 118, 97] = ByteArray.mk #[120, 110, 45, 45, 98, 99, 104, 101, 114, 45, 107, 118, 97]) := by unfold Hid; decide +kernel
  have h3 : Hid (ptsS (nums (ByteArray.mk #[120, 110, 45, 45, 97, 98, 99, 45])) = ([], 12)) := by unfold Hid; decide +kernel
  have h4 : Hid (isX (nums (ByteArray.mk #[88, 78, 45, 45, 97])) = true) := by unfold Hid; decide +kernel
  have hl := ints_cells11 w #[.int .i64 98, .int .i64 252, .int .i64 99, .int .i64 104, .int .i64 101, .int .i64 114] [98, 252, 99, 104, 101, 114] 3 rfl
  have hb0 := (Below.refl w.heap.size w).alloc (Nat.le_refl _) (.cells #[.int .i64 98, .int .i64 252, .int .i64 99, .int .i64 104, .int .i64 101, .int .i64 114] 3)
  have HL := Lib.hid hl
  have HB0 := Lib.hid hb0
  clear hl hb0
  go_enter Try.func12, Try.ntmps12
  go_wp2_with fail
  refine (alab_at _ 6 6 [98, 252, 99, 104, 101, 114] _ _ _ _ HL.out rfl (Nat.le_refl _) (by decide) h1 h2).mono ?_
  rintro e w1 ⟨rfl, hb1⟩
  have HB1 := Lib.hid (HB0.out.trans (hb1.mono HB0.out.size))
  clear hb1 HB0 HL
  go_wp2_with fail
  refine (adecode_at (ByteArray.mk #[120, 110, 45, 45, 97, 98, 99, 45]) [] 12 _ (by decide) h3).mono ?_
  rintro e w2 ⟨v2, rfl, hi2, hb2⟩
  have HB2 := Lib.hid (HB1.out.trans (hb2.mono HB1.out.size))
  obtain ⟨p2, c2, rfl, hin2⟩ := hi2.inn
  clear hb2 HB1 hi2 hin2
  go_wp2_with fail
  refine (is_at (ByteArray.mk #[88, 78, 45, 45, 97]) true _ (by decide) h4).mono ?_
  rintro e w3 ⟨rfl, hb3⟩
  have HB3 := Lib.hid (HB2.out.trans (hb3.mono HB2.out.size))
  clear hb3
  go_wp2
  go_ret
  exact ⟨rfl, HB3.out⟩

theorem same11_at (p q : Option Addr) (c d n m : Nat) (xs : List Int) (w : World) (hx : IntsIn w p xs) (hy : IntsIn w q xs) (hl : xs.length ≤ maxLen) (hn : xs.length = n) (hm : xs.length = m) :
    Calls Try.prog 16 #[.slice p n c, .slice q m d] w fun e w' => e = .returned (.bool true) ∧ Below w.heap.size w w' := by
  subst hn; subst hm
  have := same_any p q c d xs xs w hx hy hl hl
  rwa [show (xs == xs) = true by simp] at this

theorem word_lits : ∀ c ∈ wdP ++ wdQ, scpB c = true ∧ ¬ (65 ≤ c ∧ c ≤ 90) ∧ c ≠ 45 := by decide +kernel
/-- What Word makes: scalar values, no capital letters, no hyphens. -/
theorem wordF_good (zs : List Int) : (wordF zs).all scpB = true ∧ ∀ c ∈ wordF zs, ¬ (65 ≤ c ∧ c ≤ 90) ∧ c ≠ 45 := by
  have h : ∀ c ∈ wordF zs, c ∈ wdP ++ wdQ := fun c hc => by
    rcases wordF_mem zs c hc with h | h
    · exact List.mem_append.2 (.inl h)
    · exact List.mem_append.2 (.inr h)
  refine ⟨?_, fun c hc => (word_lits c (h c hc)).2⟩
  rw [List.all_eq_true]
  exact fun c hc => (word_lits c (h c hc)).1
/-- A word's label is too long, or there is none to complain about. -/
theorem word_lab {xs : List Int} (hs : xs.all scpB = true) (hl : xs.length ≤ 186) (hne : xs ≠ []) : (labS xs).2 = 0 ∨ labS xs = ([], 11) := by
  unfold labS
  rw [if_neg hne]
  split
  · unfold longE; split <;> simp
  · rw [if_neg (by rw [(back_ok xs hs hl).2.1]; simp)]
    unfold longE; split <;> simp

end Go.Proofs.Ytmnnpfohjffniaa
