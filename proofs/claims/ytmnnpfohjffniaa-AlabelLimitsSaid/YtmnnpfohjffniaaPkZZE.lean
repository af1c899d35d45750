/-
  alabel: plain mathematics: labels in ASCII form, both ways.
  alabel: plain mathematics: strings as lists of bytes: Lower, Is, comparisons.
  alabel: contracts of lowerByte, Lower, Is, ASCII, hasOnlyASCII, elementsOf, encodeASCII.
  alabel: contracts of Encode, decodePuny, Decode.
-/
import Derived.Test.YtmnnpfohjffniaaPkZZA
import Derived.Test.YtmnnpfohjffniaaPkL
import Derived.Test.YtmnnpfohjffniaaQPunDecS
import Derived.Test.YtmnnpfohjffniaaPkZZD
import Derived.Test.YtmnnpfohjffniaaQPunEncA
import Derived.Test.YtmnnpfohjffniaaQPunDecC
set_option linter.unusedSimpArgs false
set_option linter.unusedVariables false
namespace Go.Proofs.Ytmnnpfohjffniaa
set_option linter.unusedVariables false

/-- A byte without its capital letter. -/
def lowC (c : Int) : Int := if 65 ≤ c ∧ c ≤ 90 then c + 32 else c
def lowS (s : List Int) : List Int := s.map lowC
def xnS : List Int := [120, 110, 45, 45]
def isX (s : List Int) : Bool := decide (4 ≤ s.length) && (lowS (s.take 4) == xnS)
def ascQ (l : List Int) : Bool := l.all fun c => decide (0 ≤ c) && decide (c ≤ 127)
/-- Encode: the bytes and the error (10 empty, 11 long, 12 Punycode). -/
def longE (s : List Int) : List Int × Int := if 63 < s.length then ([], 11) else (s, 0)
def labS (l : List Int) : List Int × Int :=
  if l = [] then ([], 10) else if ascQ l = true then longE l else if (encP l).2 ≠ 0 then ([], (encP l).2) else longE (xnS ++ (encP l).1)
/-- Decode behind the prefix: what puny.Decode read, and what is asked of it. -/
def ptsX (s : List Int) (y : List Int × Int) : List Int × Int :=
  if y.2 ≠ 0 then ([], y.2) else if ascQ y.1 = true ∨ (labS y.1).2 ≠ 0 ∨ (labS y.1).1 ≠ lowS s then ([], 12) else (y.1, 0)
def ptsS (s : List Int) : List Int × Int :=
  if s = [] then ([], 10) else if (s.any fun c => decide (127 < c)) = true then ([], 12) else if 63 < s.length then ([], 11)
  else if isX s = false then (s, 0) else ptsX s (decP (lowS (s.drop 4)))

theorem lowC_twice (c : Int) : lowC (lowC c) = lowC c := by unfold lowC; repeat' split
                                                            all_goals omega
theorem lowC_no {c : Int} (h : ¬ (65 ≤ c ∧ c ≤ 90)) : lowC c = c := if_neg h
theorem lowS_len (s : List Int) : (lowS s).length = s.length := by unfold lowS; simp
theorem lowS_twice (s : List Int) : lowS (lowS s) = lowS s := by
  unfold lowS
  rw [List.map_map]
  exact List.map_congr_left (fun c _ => lowC_twice c)
theorem lowS_take (s : List Int) (k : Nat) : lowS (s.take k) = (lowS s).take k := by unfold lowS; rw [List.map_take]
theorem isX_low (s : List Int) : isX (lowS s) = isX s := by
  unfold isX
  rw [lowS_len, lowS_take, lowS_twice, ← lowS_take]
theorem lowS_no {s : List Int} (h : ∀ c ∈ s, ¬ (65 ≤ c ∧ c ≤ 90)) : lowS s = s := by
  unfold lowS
  induction s with
  | nil => rfl
  | cons c r ih => rw [List.map_cons, lowC_no (h c (by simp)), ih (fun d hd => h d (by simp [hd]))]

theorem basS_mem {l : List Int} {c : Int} (h : c ∈ basS l) : c ∈ l := placed_mem l _ c h
/-- What Encode writes of code points without capital letters has none, and no byte above 127. -/
theorem encP_low {l : List Int} (hs : l.all scpB = true) (hl : l.length ≤ 256) (hc : ∀ c ∈ l, ¬ (65 ≤ c ∧ c ≤ 90)) : ∀ c ∈ (encP l).1, ¬ (65 ≤ c ∧ c ≤ 90) ∧ c ≤ 127 := by
  intro c h
  unfold encP at h
  rw [if_neg (by omega), if_neg (by rw [hs]; simp)] at h
  rcases List.mem_append.1 h with h | h
  · unfold frontS at h
    rcases List.mem_append.1 h with h | h
    · exact ⟨hc c (basS_mem h), by have := basS_lt l c h; omega⟩
    · split at h
      · cases h
      · rw [List.mem_singleton] at h; omega
  · have := pencL_dig l _ _ _ _ _ _ c h
    omega

/-- Decode returns the label that Encode was given: code points without capital letters and without hyphens. -/
theorem ala_back {w : List Int} (hs : w.all scpB = true) (hl : w.length ≤ 186) (hne : w ≠ []) (hc : ∀ c ∈ w, ¬ (65 ≤ c ∧ c ≤ 90) ∧ c ≠ 45) (he : (labS w).2 = 0) :
    ptsS (labS w).1 = (w, 0) ∧ 1 ≤ (labS w).1.length ∧ (labS w).1.length ≤ 63 := by
  have hsc : ∀ c ∈ w, 0 ≤ c ∧ c ≤ 1114111 := fun c h => scp_bd (List.all_eq_true.1 hs c h)
  unfold labS at he ⊢
  rw [if_neg hne] at he ⊢
  cases ha : ascQ w with
  | true =>
    rw [ha, if_pos rfl] at he
    rw [if_pos rfl]
    unfold longE at he ⊢
    by_cases hlen : 63 < w.length
    · rw [if_pos hlen] at he; simp at he
    · rw [if_neg hlen]
      have h1 : 1 ≤ w.length := List.length_pos_iff.2 hne
      refine ⟨?_, h1, Nat.le_of_not_lt hlen⟩
      unfold ptsS
      have hany : ¬ (w.any fun c => decide (127 < c)) = true := by
        rw [Bool.not_eq_true, List.any_eq_false]
        intro c hcm
        have := List.all_eq_true.1 ha c hcm
        simp only [Bool.and_eq_true, decide_eq_true_eq] at this
        simp; omega
      have hx : isX w = false := by
        unfold isX
        by_cases h4 : 4 ≤ w.length
        · have h2 : w.getD 2 0 ∈ w := by simp [show 2 < w.length by omega]
          have h3 := (hc _ h2).2
          rw [lowS_no (fun c h => (hc c (List.mem_of_mem_take h)).1)]
          have : ¬ w.take 4 = xnS := by
            intro e
            have e2 : (w.take 4).getD 2 0 = w.getD 2 0 := by simp [List.getD, List.getElem?_take]
            rw [e] at e2
            exact h3 e2.symm
          simp [this]
        · simp [h4]
      rw [if_neg hne, if_neg hany, if_neg hlen, if_pos hx]
  | false =>
    rw [ha, if_neg (by simp)] at he
    rw [if_neg (by simp)]
    obtain ⟨b1, b2, b3⟩ := back_ok w hs hl
    rw [b2, if_neg (by simp)] at he
    rw [b2, if_neg (by simp)]
    have hlow := encP_low hs (by omega) (fun c h => (hc c h).1)
    obtain ⟨p, hp⟩ : ∃ p, (encP w).1 = p := ⟨_, rfl⟩
    rw [hp] at b1 hlow he ⊢
    unfold longE at he ⊢
    by_cases hlen : 63 < (xnS ++ p).length
    · rw [if_pos hlen] at he; simp at he
    · rw [if_neg hlen]
      simp only
      refine ⟨?_, by simp [xnS], Nat.le_of_not_lt hlen⟩
      have hd4 : (xnS ++ p).drop 4 = p := by simp [xnS]
      have hx : isX (xnS ++ p) = true := by
        unfold isX
        have : (xnS ++ p).take 4 = xnS := by simp [xnS]
        rw [this]
        simp [xnS, lowS, lowC]
      have hlp : lowS p = p := lowS_no (fun c h => (hlow c h).1)
      have hla : lowS (xnS ++ p) = xnS ++ p := by
        have e1 : lowS xnS = xnS := by simp [xnS, lowS, lowC]
        unfold lowS at e1 hlp ⊢
        rw [List.map_append, e1, hlp]
      have hany : ¬ ((xnS ++ p).any fun c => decide (127 < c)) = true := by
        rw [Bool.not_eq_true, List.any_eq_false]
        intro c hcm
        rcases List.mem_append.1 hcm with h | h
        · simp only [xnS, List.mem_cons, List.not_mem_nil, or_false] at h
          simp; omega
        · have := (hlow c h).2
          simp; omega
      have hlw : labS w = (xnS ++ p, 0) := by
        unfold labS longE
        rw [if_neg hne, ha, if_neg (by simp), b2, if_neg (by simp), hp, if_neg hlen]
      unfold ptsS
      rw [if_neg (by simp [xnS]), if_neg hany, if_neg hlen, hx, if_neg (by simp), hd4, hlp, b1]
      unfold ptsX
      simp only
      rw [if_neg (by simp), hlw, hla, ha]
      simp

/-- What Decode accepts with the prefix, Encode writes, without the capital letters. -/
theorem ala_uniq {s out : List Int} (hx : isX s = true) (h : ptsS s = (out, 0)) : labS out = (lowS s, 0) ∧ ascQ out = false := by
  unfold ptsS at h
  split at h
  · injection h with _ h; simp at h
  · split at h
    · injection h with _ h; simp at h
    · split at h
      · injection h with _ h; simp at h
      · rw [hx, if_neg (by simp)] at h
        unfold ptsX at h
        split at h
        · rename_i h1; injection h with _ h; exact absurd h h1
        · split at h
          · injection h with _ h; simp at h
          · rename_i h1 h2
            injection h with h _
            rw [h] at h2
            refine ⟨?_, ?_⟩
            · have h3 : (labS out).2 = 0 := Classical.byContradiction fun e => h2 (.inr (.inl e))
              have h4 : (labS out).1 = lowS s := Classical.byContradiction fun e => h2 (.inr (.inr e))
              rw [← h3, ← h4]
            · cases ha : ascQ out with
              | false => rfl
              | true => exact absurd (.inl ha) h2
theorem ptsS_err {s : List Int} (h : (ptsS s).2 ≠ 0) : (ptsS s).1 = [] := by
  unfold ptsS ptsX at h ⊢
  repeat' split
  all_goals (first | rfl | simp_all)

end Go.Proofs.Ytmnnpfohjffniaa

namespace Go.Proofs.Ytmnnpfohjffniaa
open Go.RowKit
set_option linter.unusedVariables false

/-- A string's bytes as a string again. -/
theorem strOf_nums (s : ByteArray) : strOfNums (nums s) = s := by
  apply ByteArray.ext
  apply Array.ext'
  have e : ((fun n : Int => UInt8.ofNat n.toNat) ∘ fun b : UInt8 => (b.toNat : Int)) = id := by funext b; simp
  simp [strOfNums, nums, e]
theorem nums_injA {a b : ByteArray} (h : nums a = nums b) : a = b := by rw [← strOf_nums a, ← strOf_nums b, h]
theorem beq_nums (a b : ByteArray) : (a.toList == b.toList) = decide (nums a = nums b) := by
  rw [ByteArray.toList_eq, ByteArray.toList_eq]
  by_cases h : nums a = nums b
  · have := nums_injA h
    subst this
    simp
  · have h2 : ¬ a.data = b.data := fun e => h (by rw [show a = b from ByteArray.ext e])
    simp [h, h2]

def lowB (s : ByteArray) : ByteArray := strOfNums (lowS (nums s))
theorem lowC_bd {c : Int} (h0 : 0 ≤ c) (h1 : c < 256) : 0 ≤ lowC c ∧ lowC c < 256 := by unfold lowC; split <;> omega
theorem nums_lowB (s : ByteArray) : nums (lowB s) = lowS (nums s) := by
  unfold lowB
  refine nums_of _ (fun x hx => ?_)
  obtain ⟨y, hy, rfl⟩ := List.mem_map.1 hx
  obtain ⟨h0, h1⟩ := nums_bytes s y hy
  exact lowC_bd h0 h1
theorem lowB_size (s : ByteArray) : (lowB s).size = s.size := by unfold lowB; rw [strOfNums_size, lowS_len, nums_length]
theorem lowB_twice (s : ByteArray) : lowB (lowB s) = lowB s := nums_injA (by rw [nums_lowB, nums_lowB, lowS_twice])
theorem isX_lowB (s : ByteArray) : isX (nums (lowB s)) = isX (nums s) := by rw [nums_lowB, isX_low]

theorem lowS_snoc (l : List Int) (k : Nat) (h : k < l.length) : (lowS l).take (k + 1) = (lowS l).take k ++ [lowC (l.getD k 0)] := by
  rw [take_snoc_int _ k (by rw [lowS_len]; exact h)]
  congr 2
  unfold lowS
  simp [List.getD, h]

/-- Is, as the program asks it. -/
theorem isX_str (s : ByteArray) (h : 4 ≤ s.size) : ((lowB (s.extract 0 4)).toList == [120, 110, 45, 45]) = isX (nums s) := by
  have e0 : ([120, 110, 45, 45] : List UInt8) = (ByteArray.mk #[120, 110, 45, 45]).toList := by decide +kernel
  have e1 : nums (ByteArray.mk #[120, 110, 45, 45]) = xnS := by decide +kernel
  rw [e0, beq_nums, nums_lowB, nums_ext0, e1]
  unfold isX
  rw [nums_length]
  simp only [h, decide_true, Bool.true_and]
  by_cases hx : lowS (List.take 4 (nums s)) = xnS <;> simp [hx]
theorem isX_short (s : ByteArray) (h : ¬ 4 ≤ s.size) : isX (nums s) = false := by
  unfold isX; rw [nums_length]; simp [h]
theorem isX_len {s : List Int} (h : isX s = true) : 4 ≤ s.length := by
  unfold isX at h; simp at h; exact h.1

theorem ascQ_bad {l : List Int} {k : Nat} (hk : k < l.length) (h : l.getD k 0 < 0 ∨ 127 < l.getD k 0) : ascQ l = false := by
  cases ha : ascQ l with
  | false => rfl
  | true =>
    have := List.all_eq_true.1 ha (l.getD k 0) (by simp [hk])
    simp only [Bool.and_eq_true, decide_eq_true_eq] at this
    omega
theorem ascQ_ok {l : List Int} (h : ∀ j, j < l.length → 0 ≤ l.getD j 0 ∧ l.getD j 0 ≤ 127) : ascQ l = true := by
  unfold ascQ
  rw [List.all_eq_true]
  intro c hc
  obtain ⟨i, hi, rfl⟩ := List.getElem_of_mem hc
  have := h i hi
  have e : l.getD i 0 = l[i] := by simp [hi]
  rw [e] at this
  simp only [Bool.and_eq_true, decide_eq_true_eq]
  exact this
theorem ascQ_at {l : List Int} (h : ascQ l = true) {k : Nat} (hk : k < l.length) : 0 ≤ l.getD k 0 ∧ l.getD k 0 ≤ 127 := by
  have := List.all_eq_true.1 h (l.getD k 0) (by simp [hk])
  simpa only [Bool.and_eq_true, decide_eq_true_eq] using this

theorem any_badA {P : List Int} {k : Nat} (hk : k < P.length) (h : 127 < P.getD k 0) : (P.any fun c => decide (127 < c)) = true := by
  rw [List.any_eq_true]
  exact ⟨P.getD k 0, by simp [hk], decide_eq_true h⟩
theorem any_okA {P : List Int} (h : ∀ k, k < P.length → P.getD k 0 ≤ 127) : (P.any fun c => decide (127 < c)) = false := by
  rw [List.any_eq_false]
  intro c hc
  obtain ⟨i, hi, rfl⟩ := List.getElem_of_mem hc
  have := h i hi
  have e : P.getD i 0 = P[i] := by simp [hi]
  rw [e] at this
  simp; omega

/-- What Encode writes are bytes. -/
theorem labS_byte {l X : List Int} {e : Int} (h : labS l = (X, e)) (hb : ∀ Y f, encP l = (Y, f) → ∀ c ∈ Y, 0 ≤ c ∧ c < 256) : ∀ c ∈ X, 0 ≤ c ∧ c < 256 := by
  unfold labS at h
  split at h
  · injection h with h1 h2; rw [← h1]; simp
  · split at h
    · rename_i ha
      unfold longE at h
      split at h
      · injection h with h1 h2; rw [← h1]; simp
      · injection h with h1 h2
        rw [← h1]
        intro c hc
        have := List.all_eq_true.1 ha c hc
        simp only [Bool.and_eq_true, decide_eq_true_eq] at this
        omega
    · split at h
      · injection h with h1 h2; rw [← h1]; simp
      · unfold longE at h
        split at h
        · injection h with h1 h2; rw [← h1]; simp
        · injection h with h1 h2
          rw [← h1]
          intro c hc
          rcases List.mem_append.1 hc with hc | hc
          · simp only [xnS, List.mem_cons, List.not_mem_nil, or_false] at hc
            omega
          · exact hb _ _ rfl c hc
theorem labS_nil : labS [] = ([], 10) := rfl
theorem labS_asc {l : List Int} (h : l ≠ []) (ha : ascQ l = true) : labS l = longE l := by unfold labS; rw [if_neg h, if_pos ha]
theorem labS_err {l X : List Int} {e : Int} (h : l ≠ []) (ha : ascQ l = false) (hE : encP l = (X, e)) (he : e ≠ 0) : labS l = ([], e) := by
  unfold labS; rw [if_neg h, if_neg (by rw [ha]; simp), hE, if_pos he]
theorem labS_enc {l X : List Int} (h : l ≠ []) (ha : ascQ l = false) (hE : encP l = (X, 0)) : labS l = longE (xnS ++ X) := by
  unfold labS; rw [if_neg h, if_neg (by rw [ha]; simp), hE, if_neg (by simp)]

theorem size_pos_neA (S : ByteArray) (h : ¬ S.size = 0) : (S.toList == []) = false := by
  rw [ByteArray.toList_eq]
  cases hd : S.data.toList with
  | nil => exact absurd (by rw [show S.size = S.data.toList.length from rfl, hd]; rfl) h
  | cons c r => rfl
theorem size_zero_eqA (S : ByteArray) (h : S.size = 0) : (S.toList == []) = true := by
  rw [ByteArray.toList_eq]
  have : S.data.toList = [] := List.eq_nil_of_length_eq_zero h
  rw [this]; rfl

end Go.Proofs.Ytmnnpfohjffniaa

namespace Go.Proofs.Ytmnnpfohjffniaa
open Go.RowKit
set_option linter.unusedVariables false

theorem ala_ret8 {a b : Int} (h : a = b) : Ending.returned (.int .u8 a) = .returned (.int .u8 b) := by rw [h]

set_option maxHeartbeats 400000 in
theorem lowb_at (c L : Int) (w : World) (h0 : 0 ≤ c) (h1 : c ≤ 255) (hL : Hid (lowC c = L)) :
    Calls Try.prog 29 #[.int .u8 c] w fun e w' => e = .returned (.int .u8 L) ∧ w' = w := by
  rcases (show c < 65 ∨ (65 ≤ c ∧ c ≤ 90) ∨ (¬ c < 65 ∧ 90 < c) by omega) with h | ⟨h2, h3⟩ | ⟨h2, h3⟩
  · have HL : Hid (c = L) := by unfold Hid; rw [← hL.out]; unfold lowC; rw [if_neg (by omega)]
    have hn : ¬ 65 ≤ c := by omega
    clear hL
    go_enter Try.func29, Try.ntmps29
    go_wp2
    go_ret
    exact ⟨ala_ret8 HL.out, rfl⟩
  · have HL : Hid (c + 32 = L) := by unfold Hid; rw [← hL.out]; unfold lowC; rw [if_pos (by omega)]
    have hw1 : IntKind.u8.wrap (c - 65) = c - 65 := by rw [IntKind.wrap_u8]; omega
    have hw2 : IntKind.u8.wrap (c - 65 + 97) = c + 32 := by rw [IntKind.wrap_u8]; omega
    clear hL
    go_enter Try.func29, Try.ntmps29
    go_wp2
    go_ret
    exact ⟨ala_ret8 HL.out, rfl⟩
  · have HL : Hid (c = L) := by unfold Hid; rw [← hL.out]; unfold lowC; rw [if_neg (by omega)]
    have hn : ¬ c ≤ 90 := by omega
    have hn2 : 65 ≤ c := by omega
    clear hL
    go_enter Try.func29, Try.ntmps29
    go_wp2
    go_ret
    exact ⟨ala_ret8 HL.out, rfl⟩

/-- The bytes that stand already, and zeros behind them. -/
def padT (L : List Int) (n : Nat) : List Int := L ++ List.replicate (n - L.length) 0
theorem padT_len (L : List Int) (n : Nat) (h : L.length ≤ n) : (padT L n).length = n := by unfold padT; simp; omega
theorem padT_nil (n : Nat) : padT [] n = List.replicate n 0 := by simp [padT]
theorem padT_full (L : List Int) (n : Nat) (h : n ≤ L.length) : padT L n = L := by unfold padT; rw [Nat.sub_eq_zero_of_le h]; simp
theorem padT_set (L : List Int) (n : Nat) (c : Int) (h : L.length < n) : (padT L n).set L.length c = padT (L ++ [c]) n := by
  unfold padT
  rw [List.set_append, if_neg (by omega), Nat.sub_self]
  obtain ⟨m, hm⟩ : ∃ m, n - L.length = m + 1 := ⟨n - L.length - 1, by omega⟩
  rw [hm, List.replicate_succ, List.set_cons_zero, List.length_append, List.length_singleton, show n - (L.length + 1) = m by omega]
  simp
theorem padT_at (L : List Int) (n : Nat) (t : IntKind) (h : L.length < n) : ((padT L n).map (Value.int t))[L.length]? = some (.int t 0) := by
  unfold padT
  obtain ⟨m, hm⟩ : ∃ m, n - L.length = m + 1 := ⟨n - L.length - 1, by omega⟩
  rw [hm, List.getElem?_map, List.getElem?_append_right (Nat.le_refl _)]
  simp

set_option maxHeartbeats 2000000 in
theorem lower_at (s S : ByteArray) (w : World) (hs : s.size ≤ 140737488355328) (hS : Hid (lowB s = S)) :
    Calls Try.prog 18 #[.string s] w fun e w' => e = .returned (.string S) ∧ Below w.heap.size w w' := by
  obtain ⟨i0, hi, hz0, hz1, hz2⟩ := info_parts Try.info5
  obtain ⟨L, hL⟩ : ∃ L, lowS (nums s) = L := ⟨_, rfl⟩
  have HLN : Hid (L.length = s.size) := by unfold Hid; rw [← hL, lowS_len, nums_length]
  have HSV : Hid (strOfNums L = S) := by unfold Hid; rw [← hS.out, ← hL]; rfl
  have HL := Lib.hid hL
  clear hL hS
  go_enter Try.func18, Try.ntmps18
  go_wp2_with (at_make; refine wpList_make_full _ rfl _ _ 34 rfl w.heap.size 5 i0 (.int .u8 0) 1 Try.underlying34 hi hz0 hz1 .i64 .i64 _ _ s.size rfl rfl rfl rfl (by rw [hz2]; omega) (by unfold maxLen; omega) (Nat.le_refl _) ?_; intro w0 hown0 hgrow0)
  have hrow0 : w0.ownsRow w.heap.size 5 1 (.slice (some ⟨w.heap.size, 0, none⟩) s.size s.size) s.size ((padT [] s.size).map (.int .u8)) := by
    have e : (madeCells (Value.int .u8 0).cells (s.size * 1)).toList = List.replicate (s.size * 1) (.int .u8 0) := toList_madeCells_one _ _
    rw [e] at hown0
    simpa [padT_nil] using hown0
  have hbel0 : Below w.heap.size w w0 := (Below.refl _ _).grown hgrow0 (Nat.le_refl _) (by simp)
  have HR0 := Lib.hid hrow0
  have HB0 := Lib.hid hbel0
  clear hrow0 hbel0 hown0 hgrow0
  go_loopw [10] (fun i wr => ∃ k : Nat, k ≤ s.size ∧ i = .int .i64 k ∧ Hid (wr.ownsRow w.heap.size 5 1 (.slice (some ⟨w.heap.size, 0, none⟩) s.size s.size) s.size ((padT (L.take k) s.size).map (.int .u8))) ∧ Hid (Below w.heap.size w wr)) (fun i _ => s.size - (intOf i).toNat)
  case atStart => exact ⟨0, Nat.zero_le _, rfl, HR0, HB0⟩
  case round =>
    obtain ⟨k, hk, rfl, ho, hbel⟩ := hrel
    by_cases hlt : k < s.size
    · have htl : (L.take k).length = k := by rw [List.length_take, HLN.out]; omega
      have hc := ho.out.cellAt k (by omega)
      have hpa := padT_at (L.take k) s.size .u8 (by omega)
      rw [htl] at hpa
      rw [hpa] at hc
      have hf := ho.out.frozenAt k
      obtain ⟨c, hcc⟩ : ∃ c : Int, (s[k].toNat : Int) = c := ⟨_, rfl⟩
      have hc0 : 0 ≤ c := by omega
      have hc1 : c ≤ 255 := by have := s[k].toNat_lt; omega
      obtain ⟨y, hy⟩ : ∃ y, lowC c = y := ⟨_, rfl⟩
      have HY := Lib.hid hy
      have hsn : L.take (k + 1) = L.take k ++ [y] := by
        rw [← HL.out, lowS_snoc _ k (by rw [nums_length]; exact hlt), pnums_getD s k hlt, hcc, hy]
      have hst := ho.out.stored k (.int .u8 y)
      have hps := padT_set (L.take k) s.size y (by omega)
      rw [htl, ← hsn] at hps
      rw [← List.map_set, hps] at hst
      have HA2 := Lib.hid hst.1
      have HB2 := Lib.hid (hbel.out.setCell (p := ⟨w.heap.size, k, none⟩) (Nat.le_refl _) (.int .u8 y))
      clear hst ho hpa htl hy hsn hps hbel
      go_wp2_with (go_at_call 29; refine (lowb_at c y _ hc0 hc1 HY).mono ?_; rintro e w5 ⟨rfl, rfl⟩)
      go_roundw
      case rel => exact ⟨k + 1, by omega, by go_num, HA2, HB2⟩
      case measure => simp [intOf]; omega
    · obtain rfl : k = s.size := by omega
      have h1 := ho.out
      rw [List.take_of_length_le (by rw [HLN.out]; exact Nat.le_refl _), padT_full _ _ (by rw [HLN.out]; exact Nat.le_refl _)] at h1
      have hcv := conv_own h1
      rw [HSV.out] at hcv
      clear h1 ho
      go_wp2
      go_ret
      exact ⟨rfl, hbel.out⟩

set_option maxHeartbeats 1000000 in
theorem is_at (s : ByteArray) (B : Bool) (w : World) (hs : s.size ≤ 140737488355328) (hB : Hid (isX (nums s) = B)) :
    Calls Try.prog 19 #[.string s] w fun e w' => e = .returned (.bool B) ∧ Below w.heap.size w w' := by
  by_cases h4 : 4 ≤ s.size
  · obtain ⟨S, hS⟩ : ∃ S, lowB (s.extract 0 4) = S := ⟨_, rfl⟩
    have hq := isX_str s h4
    rw [hS, hB.out] at hq
    have HS := Lib.hid hS
    have hes : (s.extract 0 4).size ≤ 140737488355328 := by rw [ByteArray.size_extract]; omega
    have HES := Lib.hid hes
    clear hS hes hB
    go_enter Try.func19, Try.ntmps19
    go_wp2_with (go_at_call 18; refine (lower_at _ S _ HES.out HS).mono ?_; rintro e w5 ⟨rfl, hb5⟩)
    go_ret
    exact ⟨rfl, hb5⟩
  · have HB : Hid (B = false) := by unfold Hid; rw [← hB.out]; exact isX_short s h4
    clear hB
    go_enter Try.func19, Try.ntmps19
    go_wp2
    go_ret
    exact ⟨by rw [HB.out]; rfl, Below.refl _ _⟩

set_option maxHeartbeats 1000000 in
theorem ascii_at (p : Option Addr) (n cap : Nat) (l : List Int) (B : Bool) (w : World) (hin : IntsIn w p l) (hn : Hid (l.length = n)) (hn2 : n ≤ 17592186043904) (hB : Hid (ascQ l = B)) :
    Calls Try.prog 13 #[.slice p n cap] w fun e w' => e = .returned (.bool B) ∧ w' = w := by
  have HI := Lib.hid hin
  clear hin
  go_enter Try.func13, Try.ntmps13
  go_wp2
  go_loopw [7] (fun i wr => ∃ k : Nat, k ≤ n ∧ i = .int .i64 k ∧ Hid (∀ j, j < k → 0 ≤ l.getD j 0 ∧ l.getD j 0 ≤ 127) ∧ wr = w) (fun i _ => n - (intOf i).toNat)
  case atStart => exact ⟨0, Nat.zero_le _, rfl, fun j hj => by omega, rfl⟩
  case round =>
    obtain ⟨k, hk, rfl, hall, rfl⟩ := hrel
    by_cases hlt : k < n
    · have hkl : k < l.length := by rw [hn.out]; exact hlt
      obtain ⟨b, off, rfl, hck⟩ := HI.out k hkl
      obtain ⟨x, hx⟩ : ∃ x, l.getD k 0 = x := ⟨_, rfl⟩
      rw [hx] at hck
      rcases (show x < 0 ∨ (¬ x < 0 ∧ 127 < x) ∨ (¬ x < 0 ∧ ¬ 127 < x) by omega) with h | ⟨h, h2⟩ | ⟨h, h2⟩
      · have HB : Hid (B = false) := by unfold Hid; rw [← hB.out]; exact ascQ_bad hkl (by rw [hx]; exact .inl h)
        clear hx hkl hall hB
        go_wp2
        go_ret
        exact ⟨by rw [HB.out]; rfl, rfl⟩
      · have HB : Hid (B = false) := by unfold Hid; rw [← hB.out]; exact ascQ_bad hkl (by rw [hx]; exact .inr h2)
        clear hx hkl hall hB
        go_wp2
        go_ret
        exact ⟨by rw [HB.out]; rfl, rfl⟩
      · have HA : Hid (∀ j, j < k + 1 → 0 ≤ l.getD j 0 ∧ l.getD j 0 ≤ 127) := fun j hj => by
          by_cases e : j = k
          · subst e; rw [hx]; omega
          · exact hall.out j (by omega)
        clear hx hkl hall
        go_wp2
        go_roundw
        case rel => exact ⟨k + 1, by omega, by go_num, HA, by first | rfl | trivial⟩
        case measure => simp [intOf]; omega
    · obtain rfl : k = n := by omega
      have HB : Hid (B = true) := by unfold Hid; rw [← hB.out]; exact ascQ_ok (fun j hj => hall.out j (by rw [← hn.out]; exact hj))
      clear hall hB
      go_wp2
      go_ret
      exact ⟨by rw [HB.out]; rfl, rfl⟩

set_option maxHeartbeats 1000000 in
theorem onlyasc_at (s : ByteArray) (B : Bool) (w : World) (hs : s.size ≤ 140737488355328) (hB : Hid (((nums s).any fun c => decide (127 < c)) = !B)) :
    Calls Try.prog 26 #[.string s] w fun e w' => e = .returned (.bool B) ∧ w' = w := by
  go_enter Try.func26, Try.ntmps26
  go_wp2
  go_loopw [6] (fun i wr => ∃ k : Nat, k ≤ s.size ∧ i = .int .i64 k ∧ Hid (∀ j, j < k → (nums s).getD j 0 ≤ 127) ∧ wr = w) (fun i _ => s.size - (intOf i).toNat)
  case atStart => exact ⟨0, Nat.zero_le _, rfl, fun j hj => by omega, rfl⟩
  case round =>
    obtain ⟨k, hk, rfl, hall, rfl⟩ := hrel
    by_cases hlt : k < s.size
    · have hgd := pnums_getD s k hlt
      obtain ⟨c, hcc⟩ : ∃ c : Int, (s[k].toNat : Int) = c := ⟨_, rfl⟩
      rw [hcc] at hgd
      by_cases hc : 127 < c
      · have HB : Hid (B = false) := by
          have h1 := hB.out
          rw [any_badA (k := k) (by rw [nums_length]; exact hlt) (by rw [hgd]; exact hc)] at h1
          unfold Hid
          cases B with
          | false => rfl
          | true => exact absurd h1 (by simp)
        clear hgd hall hB
        go_wp2
        go_ret
        exact ⟨by rw [HB.out]; rfl, rfl⟩
      · have HA : Hid (∀ j, j < k + 1 → (nums s).getD j 0 ≤ 127) := fun j hj => by
          by_cases e : j = k
          · subst e; rw [hgd]; omega
          · exact hall.out j (by omega)
        have hd : decide (127 < c) = false := decide_eq_false hc
        clear hgd hall
        go_wp2
        go_roundw
        case rel => exact ⟨k + 1, by omega, by go_num, HA, by first | rfl | trivial⟩
        case measure => simp [intOf]; omega
    · obtain rfl : k = s.size := by omega
      have HB : Hid (B = true) := by
        have h1 := hB.out
        rw [any_okA (fun j hj => hall.out j (by rw [nums_length] at hj; exact hj))] at h1
        unfold Hid
        cases B with
        | false => exact absurd h1 (by simp)
        | true => rfl
      clear hall hB
      go_wp2
      go_ret
      exact ⟨by rw [HB.out]; rfl, rfl⟩

set_option maxHeartbeats 2000000 in
theorem elems_at (s : ByteArray) (w : World) (hs : s.size ≤ 1048576) :
    Calls Try.prog 28 #[.string s] w fun e w' => ∃ v, e = .returned v ∧ Ints w' w.heap.size v (nums s) ∧ Below w.heap.size w w' := by
  obtain ⟨i0, hi, hz0, hz1, hz2⟩ := info_parts Try.info3
  obtain ⟨L, hL⟩ : ∃ L, nums s = L := ⟨_, rfl⟩
  have HLN : Hid (L.length = s.size) := by unfold Hid; rw [← hL, nums_length]
  have HL := Lib.hid hL
  clear hL
  go_enter Try.func28, Try.ntmps28
  go_wp2_with (at_make; refine wpList_make_full _ rfl _ _ 22 rfl w.heap.size 3 i0 (.int .i64 0) 1 Try.underlying22 hi hz0 hz1 .i64 .i64 _ _ s.size rfl rfl rfl rfl (by rw [hz2]; omega) (by unfold maxLen; omega) (Nat.le_refl _) ?_; intro w0 hown0 hgrow0)
  have hrow0 : w0.ownsRow w.heap.size 3 1 (.slice (some ⟨w.heap.size, 0, none⟩) s.size s.size) s.size ((padT [] s.size).map (.int .i64)) := by
    have e : (madeCells (Value.int .i64 0).cells (s.size * 1)).toList = List.replicate (s.size * 1) (.int .i64 0) := toList_madeCells_one _ _
    rw [e] at hown0
    simpa [padT_nil] using hown0
  have hbel0 : Below w.heap.size w w0 := (Below.refl _ _).grown hgrow0 (Nat.le_refl _) (by simp)
  have HR0 := Lib.hid hrow0
  have HB0 := Lib.hid hbel0
  clear hrow0 hbel0 hown0 hgrow0
  go_loopw [10] (fun i wr => ∃ k : Nat, k ≤ s.size ∧ i = .int .i64 k ∧ Hid (wr.ownsRow w.heap.size 3 1 (.slice (some ⟨w.heap.size, 0, none⟩) s.size s.size) s.size ((padT (L.take k) s.size).map (.int .i64))) ∧ Hid (Below w.heap.size w wr)) (fun i _ => s.size - (intOf i).toNat)
  case atStart => exact ⟨0, Nat.zero_le _, rfl, HR0, HB0⟩
  case round =>
    obtain ⟨k, hk, rfl, ho, hbel⟩ := hrel
    by_cases hlt : k < s.size
    · have htl : (L.take k).length = k := by rw [List.length_take, HLN.out]; omega
      have hc := ho.out.cellAt k (by omega)
      have hpa := padT_at (L.take k) s.size .i64 (by omega)
      rw [htl] at hpa
      rw [hpa] at hc
      have hf := ho.out.frozenAt k
      obtain ⟨c, hcc⟩ : ∃ c : Int, (s[k].toNat : Int) = c := ⟨_, rfl⟩
      have hc0 : 0 ≤ c := by omega
      have hc1 : c ≤ 255 := by have := s[k].toNat_lt; omega
      have hw : IntKind.i64.wrap c = c := IntWalk.i64_in _ (by omega)
      have hsn : L.take (k + 1) = L.take k ++ [c] := by
        rw [take_snoc_int L k (by rw [HLN.out]; exact hlt), ← HL.out, pnums_getD s k hlt, hcc]
      have hst := ho.out.stored k (.int .i64 c)
      have hps := padT_set (L.take k) s.size c (by omega)
      rw [htl, ← hsn] at hps
      rw [← List.map_set, hps] at hst
      have HA2 := Lib.hid hst.1
      have HB2 := Lib.hid (hbel.out.setCell (p := ⟨w.heap.size, k, none⟩) (Nat.le_refl _) (.int .i64 c))
      clear hst ho hpa htl hsn hps hbel
      go_wp2
      go_roundw
      case rel => exact ⟨k + 1, by omega, by go_num, HA2, HB2⟩
      case measure => simp [intOf]; omega
    · obtain rfl : k = s.size := by omega
      have h1 := ho.out
      rw [List.take_of_length_le (by rw [HLN.out]; exact Nat.le_refl _), padT_full _ _ (by rw [HLN.out]; exact Nat.le_refl _)] at h1
      have HO : Hid (Ints wr w.heap.size (.slice (some ⟨w.heap.size, 0, none⟩) s.size s.size) L) := by
        unfold Hid Ints; rw [HLN.out]; exact h1
      clear h1 ho
      go_wp2
      go_ret
      exact ⟨_, rfl, by rw [HL.out]; exact HO.out, hbel.out⟩

set_option maxHeartbeats 2000000 in
theorem encasc_at (p : Option Addr) (n cap : Nat) (l X : List Int) (er : Int) (S : ByteArray) (w : World) (hin : IntsIn w p l) (hn : Hid (l.length = n)) (hn2 : n ≤ 17592186043904) (ha : Hid (ascQ l = true)) (hE : Hid (longE l = (X, er))) (hS : Hid (strOfNums X = S)) :
    Calls Try.prog 23 #[.slice p n cap] w (StrErr S er w) := by
  have HI := Lib.hid hin
  clear hin
  by_cases hbig : 63 < n
  · have hE' := hE.out
    unfold longE at hE'
    rw [if_pos (by rw [hn.out]; exact hbig)] at hE'
    injection hE' with e1 e2
    subst e1; subst e2
    have HS : Hid (S = ByteArray.mk #[]) := hS.out.symm
    clear hE hS
    go_enter Try.func23, Try.ntmps23
    go_wp2
    go_ret2
    exact ⟨by rw [HS.out]; rfl, Below.refl _ _⟩
  have hE' := hE.out
  unfold longE at hE'
  rw [if_neg (by rw [hn.out]; exact hbig)] at hE'
  injection hE' with e1 e2
  subst e1; subst e2
  obtain ⟨i0, hi, hz0, hz1, hz2⟩ := info_parts Try.info5
  have hnb : n ≤ 63 := by omega
  clear hE hbig
  go_enter Try.func23, Try.ntmps23
  go_wp2_with (at_make; refine wpList_make_full _ rfl _ _ 34 rfl w.heap.size 5 i0 (.int .u8 0) 1 Try.underlying34 hi hz0 hz1 .i64 .i64 _ _ n rfl rfl rfl rfl (by rw [hz2]; omega) (by unfold maxLen; omega) (Nat.le_refl _) ?_; intro w0 hown0 hgrow0)
  have hrow0 : w0.ownsRow w.heap.size 5 1 (.slice (some ⟨w.heap.size, 0, none⟩) n n) n ((padT [] n).map (.int .u8)) := by
    have e : (madeCells (Value.int .u8 0).cells (n * 1)).toList = List.replicate (n * 1) (.int .u8 0) := toList_madeCells_one _ _
    rw [e] at hown0
    simpa [padT_nil] using hown0
  have hbel0 : Below w.heap.size w w0 := (Below.refl _ _).grown hgrow0 (Nat.le_refl _) (by simp)
  have HR0 := Lib.hid hrow0
  have HB0 := Lib.hid hbel0
  clear hrow0 hbel0 hown0 hgrow0
  go_loopw [15] (fun i wr => ∃ k : Nat, k ≤ n ∧ i = .int .i64 k ∧ Hid (wr.ownsRow w.heap.size 5 1 (.slice (some ⟨w.heap.size, 0, none⟩) n n) n ((padT (l.take k) n).map (.int .u8))) ∧ Hid (Below w.heap.size w wr)) (fun i _ => n - (intOf i).toNat)
  case atStart => exact ⟨0, Nat.zero_le _, rfl, HR0, HB0⟩
  case round =>
    obtain ⟨k, hk, rfl, ho, hbel⟩ := hrel
    by_cases hlt : k < n
    · have hkl : k < l.length := by rw [hn.out]; exact hlt
      have htl : (l.take k).length = k := by rw [List.length_take]; omega
      have hc := ho.out.cellAt k (by omega)
      have hpa := padT_at (l.take k) n .u8 (by omega)
      rw [htl] at hpa
      rw [hpa] at hc
      have hf := ho.out.frozenAt k
      obtain ⟨b, off, rfl, hck⟩ := (HI.out.below hbel.out) k hkl
      obtain ⟨x, hx⟩ : ∃ x, l.getD k 0 = x := ⟨_, rfl⟩
      obtain ⟨hx0, hx1⟩ := ascQ_at ha.out hkl
      rw [hx] at hck hx0 hx1
      have hw : IntKind.u8.wrap x = x := by rw [IntKind.wrap_u8]; omega
      have hsn : l.take (k + 1) = l.take k ++ [x] := by rw [take_snoc_int l k hkl, hx]
      have hst := ho.out.stored k (.int .u8 x)
      have hps := padT_set (l.take k) n x (by omega)
      rw [htl, ← hsn] at hps
      rw [← List.map_set, hps] at hst
      have HA2 := Lib.hid hst.1
      have HB2 := Lib.hid (hbel.out.setCell (p := ⟨w.heap.size, k, none⟩) (Nat.le_refl _) (.int .u8 x))
      clear hst ho hpa htl hsn hps hbel hx hkl
      go_wp2
      go_roundw
      case rel => exact ⟨k + 1, by omega, by go_num, HA2, HB2⟩
      case measure => simp [intOf]; omega
    · obtain rfl : k = n := by omega
      have h1 := ho.out
      rw [List.take_of_length_le (by rw [hn.out]; exact Nat.le_refl _), padT_full _ _ (by rw [hn.out]; exact Nat.le_refl _)] at h1
      have hcv := conv_own h1
      rw [hS.out] at hcv
      clear h1 ho
      go_wp2
      go_ret2
      exact ⟨rfl, hbel.out⟩

end Go.Proofs.Ytmnnpfohjffniaa

namespace Go.Proofs.Ytmnnpfohjffniaa
open Go.RowKit
set_option linter.unusedVariables false

/-- An encoding's bytes are bytes; not many of them. -/
theorem encP_byteA {l X : List Int} {e : Int} (h : encP l = (X, e)) : (∀ c ∈ X, 0 ≤ c ∧ c < 256) ∧ X.length ≤ 4096 := by
  unfold encP at h
  split at h
  · injection h with h1 h2; rw [← h1]; simp
  · split at h
    · injection h with h1 h2; rw [← h1]; simp
    · rename_i h0 h3
      injection h with h1 h2
      have hs : ∀ c ∈ l, scpB c = true := by
        have : l.all scpB = true := by simpa using h3
        simpa using this
      refine ⟨fun c hc => ?_, ?_⟩
      · rw [← h1] at hc
        rcases List.mem_append.1 hc with hc | hc
        · unfold frontS at hc
          rcases List.mem_append.1 hc with hc | hc
          · have h4 := basS_lt l c hc
            have h5 := scp_bd (hs c (placed_mem _ _ c hc))
            omega
          · split at hc
            · simp at hc
            · simp at hc; omega
        · have := pencL_dig l _ _ _ _ _ _ c hc
          omega
      · rw [← h1, List.length_append]
        have h4 := pencL_len l hs (by omega) (l.length - (basS l).length) (basF l) 128 0 72 true (by simp [basF]) (by omega)
        have h5 : (basS l).length ≤ l.length := placed_len _ _
        have h6 : (frontS (basS l)).length ≤ (basS l).length + 1 := by unfold frontS; rw [List.length_append]; split <;> simp
        omega

theorem encP_err {l X : List Int} {e : Int} (h : encP l = (X, e)) : e = 0 ∨ (X = [] ∧ e = 7) ∨ (X = [] ∧ e = 3) := by
  unfold encP at h
  split at h
  · injection h with h1 h2; exact .inr (.inl ⟨h1.symm, h2.symm⟩)
  · split at h
    · injection h with h1 h2; exact .inr (.inr ⟨h1.symm, h2.symm⟩)
    · injection h with h1 h2; exact .inl h2.symm

theorem xn_front (X : List Int) : ByteArray.mk #[120, 110, 45, 45] ++ strOfNums X = strOfNums (xnS ++ X) := by
  have e : ByteArray.mk #[120, 110, 45, 45] = strOfNums xnS := by decide +kernel
  rw [e]
  apply ByteArray.ext
  apply Array.ext'
  simp [strOfNums]

set_option maxHeartbeats 2000000 in
theorem alab_at (p : Option Addr) (n cap : Nat) (l X : List Int) (er : Int) (S : ByteArray) (w : World) (hin : IntsIn w p l) (hn : Hid (l.length = n)) (hcap : n ≤ cap) (hn2 : n ≤ 17592186043904) (hE : Hid (labS l = (X, er))) (hS : Hid (strOfNums X = S)) :
    Calls Try.prog 10 #[.slice p n cap] w (StrErr S er w) := by
  have HI := Lib.hid hin
  clear hin
  by_cases h0 : n = 0
  · have hl0 : l = [] := List.eq_nil_of_length_eq_zero (by rw [hn.out]; exact h0)
    have hE' := hE.out
    rw [hl0, labS_nil] at hE'
    injection hE' with e1 e2
    subst e1; subst e2
    have HS : Hid (S = ByteArray.mk #[]) := hS.out.symm
    subst h0
    clear hE hS
    go_enter Try.func10, Try.ntmps10
    go_wp2
    go_ret2
    exact ⟨by rw [HS.out]; rfl, Below.refl _ _⟩
  have hne : l ≠ [] := fun e => h0 (by rw [← hn.out, e]; rfl)
  have d0 : ((n : Int) == 0) = false := by simp; omega
  cases ha : ascQ l with
  | true =>
    have HA := Lib.hid ha
    have HE : Hid (longE l = (X, er)) := by unfold Hid; rw [← labS_asc hne ha]; exact hE.out
    clear hE ha hne
    go_enter Try.func10, Try.ntmps10
    go_wp2_with fail
    refine (ascii_at p n cap l true _ HI.out hn hn2 HA).mono ?_
    rintro e w1 ⟨rfl, rfl⟩
    go_wp2_with fail
    refine (encasc_at p n cap l X er S _ HI.out hn hn2 HA HE hS).mono ?_
    rintro e w2 ⟨rfl, hb2⟩
    go_wp2
    go_ret2
    exact ⟨rfl, hb2⟩
  | false =>
    have HA := Lib.hid ha
    obtain ⟨Y, f, hY⟩ : ∃ Y f, encP l = (Y, f) := ⟨_, _, rfl⟩
    obtain ⟨T, hT⟩ : ∃ T, strOfNums Y = T := ⟨_, rfl⟩
    have HY := Lib.hid hY
    have HT := Lib.hid hT
    have hTs : T.size ≤ 4096 := by rw [← hT, strOfNums_size]; exact (encP_byteA hY).2
    by_cases hf : f = 0
    · subst hf
      have hE' := hE.out
      rw [labS_enc hne ha hY] at hE'
      unfold longE at hE'
      have hxl : (xnS ++ Y).length = 4 + T.size := by rw [← hT, strOfNums_size]; simp [xnS]; omega
      rw [hxl] at hE'
      by_cases hbig : 63 < 4 + T.size
      · rw [if_pos hbig] at hE'
        injection hE' with e1 e2
        subst e1; subst e2
        have HS : Hid (S = ByteArray.mk #[]) := hS.out.symm
        have hbig2 : (63 : Int) < 4 + (T.size : Int) := by omega
        clear hE ha hne hY hT hS hxl
        go_enter Try.func10, Try.ntmps10
        go_wp2_with fail
        refine (ascii_at p n cap l false _ HI.out hn hn2 HA).mono ?_
        rintro e w1 ⟨rfl, rfl⟩
        go_wp2_with fail
        refine (encode_at p n cap l Y 0 T _ HI.out hn hcap hn2 HY HT).mono ?_
        rintro e w2 ⟨rfl, hb2⟩
        go_wp2
        go_ret2
        exact ⟨by rw [HS.out]; rfl, hb2⟩
      · rw [if_neg hbig] at hE'
        injection hE' with e1 e2
        subst e2
        have HS : Hid (ByteArray.mk #[120, 110, 45, 45] ++ T = S) := by
          unfold Hid; rw [← hS.out, ← e1, ← hT]; exact xn_front Y
        have hbig2 : ¬ (63 : Int) < 4 + (T.size : Int) := by omega
        have h45 : (ByteArray.mk #[120, 110, 45, 45]).size = 4 := rfl
        clear hE ha hne hY hT hS hxl e1
        go_enter Try.func10, Try.ntmps10
        go_wp2_with fail
        refine (ascii_at p n cap l false _ HI.out hn hn2 HA).mono ?_
        rintro e w1 ⟨rfl, rfl⟩
        go_wp2_with fail
        refine (encode_at p n cap l Y 0 T _ HI.out hn hcap hn2 HY HT).mono ?_
        rintro e w2 ⟨rfl, hb2⟩
        go_wp2
        go_ret2
        exact ⟨by rw [← HS.out]; rfl, hb2⟩
    · have hE' := hE.out
      rw [labS_err hne ha hY hf] at hE'
      injection hE' with e1 e2
      subst e1; subst e2
      have HS : Hid (S = ByteArray.mk #[]) := hS.out.symm
      have d1 : (f != 0) = true := by simp [hf]
      clear hE ha hne hY hT hS
      go_enter Try.func10, Try.ntmps10
      go_wp2_with fail
      refine (ascii_at p n cap l false _ HI.out hn hn2 HA).mono ?_
      rintro e w1 ⟨rfl, rfl⟩
      go_wp2_with fail
      refine (encode_at p n cap l Y f T _ HI.out hn hcap hn2 HY HT).mono ?_
      rintro e w2 ⟨rfl, hb2⟩
      go_wp2
      go_ret2
      exact ⟨by rw [HS.out]; rfl, hb2⟩

/-- What puny.Decode leaves can be looked at. -/
theorem ints_capA {w : World} {B : Nat} {v : Value} {zs : List Int} (h : Ints w B v zs) : ∃ p cap, v = .slice p zs.length cap ∧ IntsIn w p zs ∧ zs.length ≤ cap := by
  obtain ⟨h1, h2⟩ := h
  rcases h2 with ⟨rfl, h3⟩ | ⟨g, cap, cur, rfl, hB, hg, hn, hc, hs, ht⟩
  · have : zs = [] := List.eq_nil_of_length_eq_zero h3
    subst this
    exact ⟨none, 0, rfl, fun k hk => by simp at hk, Nat.le_refl _⟩
  · obtain ⟨p, c, e, hi⟩ := Ints.inn (w := w) (B := B) (zs := zs) ⟨h1, .inr ⟨g, cap, cur, rfl, hB, hg, hn, hc, hs, ht⟩⟩
    injection e with e1 e2 e3
    subst e1; subst e3
    exact ⟨_, cap, rfl, hi, hn⟩

set_option maxHeartbeats 2000000 in
theorem decpuny_at (t : ByteArray) (s out : List Int) (er : Int) (w : World) (hs : t.size ≤ 63) (h4 : 4 ≤ t.size) (hL : Hid (nums t = lowS s)) (hE : Hid (ptsX s (decP (lowS (s.drop 4))) = (out, er))) :
    Calls Try.prog 27 #[.string t] w (RetDec out er w) := by
  obtain ⟨l, f, hD⟩ : ∃ l f, decP (lowS (s.drop 4)) = (l, f) := ⟨_, _, rfl⟩
  have hx : nums (t.extract 4 t.size) = lowS (s.drop 4) := by rw [nums_extE, hL.out]; unfold lowS; rw [List.map_drop]
  obtain ⟨u, hu⟩ : ∃ u, t.extract 4 t.size = u := ⟨_, rfl⟩
  rw [hu] at hx
  have hus : u.size ≤ 63 := by rw [← hu, ByteArray.size_extract]; omega
  have HD : Hid (decP (nums u) = (l, f)) := by unfold Hid; rw [hx]; exact hD
  have HU := Lib.hid hu
  have hll := (decP_out HD.out).1
  have HLL : Hid (l.length ≤ 2048) := hll
  have hE' := hE.out
  rw [hD] at hE'
  unfold ptsX at hE'
  simp only at hE'
  clear hE hx hu hD hll
  by_cases hf : f = 0
  · subst hf
    rw [if_neg (by simp)] at hE'
    obtain ⟨X, g, hX⟩ : ∃ X g, labS l = (X, g) := ⟨_, _, rfl⟩
    obtain ⟨R, hR⟩ : ∃ R, strOfNums X = R := ⟨_, rfl⟩
    have hXb := labS_byte hX (fun Y f h => (encP_byteA h).1)
    have hRn : nums R = X := by rw [← hR]; exact nums_of X hXb
    have hq : (R.toList == t.toList) = decide (X = lowS s) := by rw [beq_nums, hRn, hL.out]
    rw [hX] at hE'
    simp only at hE'
    have HX := Lib.hid hX
    have HR := Lib.hid hR
    clear hX hR hXb hRn
    cases ha : ascQ l with
    | true =>
      have HA := Lib.hid ha
      rw [if_pos (.inl ha)] at hE'
      injection hE' with e1 e2
      subst e1; subst e2
      clear ha hq
      go_enter Try.func27, Try.ntmps27
      go_wp2_with fail
      rw [HU.out]
      refine (pdecode_at u l 0 _ (by omega) HD).mono ?_
      rintro e w1 ⟨v1, rfl, hi1, hb1⟩
      obtain ⟨p1, c1, rfl, hin1, hc1⟩ := ints_capA hi1
      have HI1 := Lib.hid hin1
      have HB1 := Lib.hid hb1
      obtain ⟨n, hn⟩ : ∃ n, l.length = n := ⟨_, rfl⟩
      have HN := Lib.hid hn
      have hnl := HLL.out
      rw [hn] at hnl hc1
      rw [hn]
      clear hi1 hin1 hb1 hn
      go_wp2_with fail
      refine (ascii_at p1 n c1 l true _ HI1.out HN (by omega) HA).mono ?_
      rintro e w2 ⟨rfl, rfl⟩
      go_wp2
      go_ret2
      exact RetDec.nil 12 HB1.out
    | false =>
      have HA := Lib.hid ha
      have hE2 : (if g ≠ 0 ∨ X ≠ lowS s then (([] : List Int), (12 : Int)) else (l, 0)) = (out, er) := by
        rw [← hE', ha]; simp
      have HE2 := Lib.hid hE2
      clear hE' hE2 ha
      go_enter Try.func27, Try.ntmps27
      go_wp2_with fail
      rw [HU.out]
      refine (pdecode_at u l 0 _ (by omega) HD).mono ?_
      rintro e w1 ⟨v1, rfl, hi1, hb1⟩
      obtain ⟨p1, c1, rfl, hin1, hc1⟩ := ints_capA hi1
      have HI0 := Lib.hid hi1
      have HI1 := Lib.hid hin1
      have HB1 := Lib.hid hb1
      obtain ⟨n, hn⟩ : ∃ n, l.length = n := ⟨_, rfl⟩
      have HN := Lib.hid hn
      have hnl := HLL.out
      rw [hn] at hnl hc1 HI0
      rw [hn]
      clear hi1 hin1 hb1 hn
      go_wp2_with fail
      refine (ascii_at p1 n c1 l false _ HI1.out HN (by omega) HA).mono ?_
      rintro e w2 ⟨rfl, rfl⟩
      go_wp2_with fail
      refine (alab_at p1 n c1 l X g R _ HI1.out HN hc1 (by omega) HX HR).mono ?_
      rintro e w3 ⟨rfl, hb3⟩
      have HB3 := Lib.hid (HB1.out.trans (hb3.mono HB1.out.size))
      have HI3 := Lib.hid (HI0.out.below hb3)
      clear hb3 HI0 HI1 HB1
      by_cases hg : g = 0
      · subst hg
        by_cases hXs : X = lowS s
        · have hE := HE2.out
          rw [if_neg (by simp [hXs])] at hE
          injection hE with e1 e2
          subst e1; subst e2
          have hq1 : (R.toList == t.toList) = true := by rw [hq]; exact decide_eq_true hXs
          have hq2 : (R.toList != t.toList) = false := by unfold bne; rw [hq1]; rfl
          have HQ := Lib.hid hXs
          clear hXs hq HE2
          go_wp2
          go_ret2
          exact ⟨_, rfl, HI3.out, HB3.out⟩
        · have hE := HE2.out
          rw [if_pos (.inr hXs)] at hE
          injection hE with e1 e2
          subst e1; subst e2
          have hq1 : (R.toList == t.toList) = false := by rw [hq]; exact decide_eq_false hXs
          have hq2 : (R.toList != t.toList) = true := by unfold bne; rw [hq1]; rfl
          clear hXs hq HE2
          go_wp2
          go_ret2
          exact RetDec.nil 12 HB3.out
      · have hE := HE2.out
        rw [if_pos (.inl hg)] at hE
        injection hE with e1 e2
        subst e1; subst e2
        have d1 : (g != 0) = true := by simp [hg]
        clear hg hq HE2
        go_wp2
        go_ret2
        exact RetDec.nil 12 HB3.out
  · rw [if_pos hf] at hE'
    injection hE' with e1 e2
    subst e1; subst e2
    have d1 : (f != 0) = true := by simp [hf]
    have HF := Lib.hid hf
    clear hf
    go_enter Try.func27, Try.ntmps27
    go_wp2_with fail
    rw [HU.out]
    refine (pdecode_at u l f _ (by omega) HD).mono ?_
    rintro e w1 ⟨v1, rfl, hi1, hb1⟩
    obtain ⟨p1, c1, rfl, hin1, hc1⟩ := ints_capA hi1
    have HB1 := Lib.hid hb1
    clear hi1 hin1 hb1
    go_wp2
    go_ret2
    exact RetDec.nil f HB1.out

set_option maxHeartbeats 2000000 in
theorem adecode_at (s : ByteArray) (out : List Int) (er : Int) (w : World) (hs : s.size ≤ 140737488355328) (hE : Hid (ptsS (nums s) = (out, er))) :
    Calls Try.prog 15 #[.string s] w (RetDec out er w) := by
  have hE' := hE.out
  unfold ptsS at hE'
  by_cases h0 : s.size = 0
  · have hl0 : nums s = [] := List.eq_nil_of_length_eq_zero (by rw [nums_length]; exact h0)
    rw [if_pos hl0] at hE'
    injection hE' with e1 e2
    subst e1; subst e2
    have d1 := size_zero_eqA s h0
    clear hE hl0 h0
    go_enter Try.func15, Try.ntmps15
    go_wp2
    go_ret2
    exact RetDec.nil 10 (Below.refl _ _)
  have hne : nums s ≠ [] := fun e => h0 (by rw [← nums_length, e]; rfl)
  rw [if_neg hne] at hE'
  have d1 := size_pos_neA s h0
  clear hne h0
  cases hany : (nums s).any fun c => decide (127 < c) with
  | true =>
    have HO : Hid (((nums s).any fun c => decide (127 < c)) = !false) := by unfold Hid; rw [hany]; rfl
    rw [if_pos hany] at hE'
    injection hE' with e1 e2
    subst e1; subst e2
    clear hE hany
    go_enter Try.func15, Try.ntmps15
    go_wp2_with fail
    refine (onlyasc_at s false _ hs HO).mono ?_
    rintro e w1 ⟨rfl, rfl⟩
    go_wp2
    go_ret2
    exact RetDec.nil 12 (Below.refl _ _)
  | false =>
    have HO : Hid (((nums s).any fun c => decide (127 < c)) = !true) := by unfold Hid; rw [hany]; rfl
    rw [if_neg (by rw [hany]; simp), nums_length] at hE'
    clear hE hany
    by_cases hbig : 63 < s.size
    · rw [if_pos hbig] at hE'
      injection hE' with e1 e2
      subst e1; subst e2
      go_enter Try.func15, Try.ntmps15
      go_wp2_with fail
      refine (onlyasc_at s true _ hs HO).mono ?_
      rintro e w1 ⟨rfl, rfl⟩
      go_wp2
      go_ret2
      exact RetDec.nil 11 (Below.refl _ _)
    · rw [if_neg hbig] at hE'
      have hs63 : s.size ≤ 63 := by omega
      cases hx : isX (nums s) with
      | false =>
        have HX := Lib.hid hx
        rw [if_pos hx] at hE'
        injection hE' with e1 e2
        subst e2
        have HE1 := Lib.hid e1
        clear hx e1
        go_enter Try.func15, Try.ntmps15
        go_wp2_with fail
        refine (onlyasc_at s true _ hs HO).mono ?_
        rintro e w1 ⟨rfl, rfl⟩
        go_wp2_with fail
        refine (is_at s false _ hs HX).mono ?_
        rintro e w2 ⟨rfl, hb2⟩
        have HB2 := Lib.hid hb2
        clear hb2
        go_wp2_with fail
        refine (elems_at s _ (by omega)).mono ?_
        rintro e w3 ⟨v3, rfl, hi3, hb3⟩
        obtain ⟨p3, c3, rfl, hin3, hc3⟩ := ints_capA hi3
        have HI3 := Lib.hid (ownsRow_mono hi3 HB2.out.size)
        have HB3 := Lib.hid (HB2.out.trans (hb3.mono HB2.out.size))
        clear hi3 hin3 hb3 HB2
        go_wp2
        go_ret2
        refine ⟨_, rfl, ?_, HB3.out⟩
        rw [← HE1.out]
        exact HI3.out
      | true =>
        have HX := Lib.hid hx
        rw [if_neg (by rw [hx]; simp)] at hE'
        have HE := Lib.hid hE'
        have h4 : 4 ≤ s.size := by have := isX_len hx; rwa [nums_length] at this
        obtain ⟨t, ht⟩ : ∃ t, lowB s = t := ⟨_, rfl⟩
        have hts : t.size = s.size := by rw [← ht]; exact lowB_size s
        have HT := Lib.hid ht
        have HTN : Hid (nums t = lowS (nums s)) := by unfold Hid; rw [← ht]; exact nums_lowB s
        have ht63 : t.size ≤ 63 := by omega
        have ht4 : 4 ≤ t.size := by omega
        clear hx hE' ht hts
        go_enter Try.func15, Try.ntmps15
        go_wp2_with fail
        refine (onlyasc_at s true _ hs HO).mono ?_
        rintro e w1 ⟨rfl, rfl⟩
        go_wp2_with fail
        refine (is_at s true _ hs HX).mono ?_
        rintro e w2 ⟨rfl, hb2⟩
        have HB2 := Lib.hid hb2
        clear hb2
        go_wp2_with fail
        refine (lower_at s t _ hs HT).mono ?_
        rintro e w3 ⟨rfl, hb3⟩
        have HB3 := Lib.hid (HB2.out.trans (hb3.mono HB2.out.size))
        clear hb3 HB2
        go_wp2_with fail
        refine (decpuny_at t (nums s) out er _ ht63 ht4 HTN HE).mono ?_
        rintro e w4 ⟨v4, rfl, hi4, hb4⟩
        have HI4 := Lib.hid (ownsRow_mono hi4 HB3.out.size)
        have HB4 := Lib.hid (HB3.out.trans (hb4.mono HB3.out.size))
        clear hi4 hb4 HB3
        go_wp2
        go_ret2
        exact ⟨_, rfl, HI4.out, HB4.out⟩

end Go.Proofs.Ytmnnpfohjffniaa
