/-
  ranges: firstNotBefore, Find, Check, Count, checkChange, limit, Normal.
-/
import Derived.Test.YtkapjihjbflliaaRanA
import Derived.Test.YtkapjihjbflliaaRanB
import Derived.Test.YtkapjihjbflliaaRanSpec2
namespace Go.Proofs.Ytkapjihjbflliaa
open Go.RowKit

theorem isValid_at (p : Option Addr) (n c : Nat) (l : List Sp) (b : Bool) (w : World) (hl : Hid (l.length = n)) (hn : n ≤ maxLen) (hin : SpIn w p l) (hv : Hid (validS l = b)) :
    Calls Try.prog 31 #[.slice p n c] w fun e w' => e = .returned (.bool b) ∧ Below w.heap.size w w' := by
  have := isValid_any p n c l w hl.out hn hin
  rw [hv.out] at this
  exact this

theorem valid_asc {l : List Sp} (h : validS l = true) : ascB 0 l = true := by
  simp only [validS, Bool.and_eq_true] at h; exact h.2
theorem valid_len {l : List Sp} (h : validS l = true) : l.length ≤ 256 := by
  simp only [validS, Bool.and_eq_true, decide_eq_true_eq] at h; exact h.1

/-- The index of the first span that does not end before c. -/
def FirstPost (l : List Sp) (c : Int) (w : World) (e : Ending) (w' : World) : Prop :=
  ∃ r : Nat, e = .returned (.int .i64 r) ∧ r ≤ l.length ∧ (∀ s ∈ l.take r, s.2.1 < c) ∧ (∀ s ∈ l.drop r, c ≤ s.2.1) ∧ w = w'

theorem take_lt {l : List Sp} {lo c : Int} (ha : ascB lo l = true) (m : Nat) (hm : m < l.length) (h : (l.getD m sp0).2.1 < c) : ∀ s ∈ l.take (m + 1), s.2.1 < c := by
  intro s hs
  rw [take_snoc_sp l m hm] at hs
  rcases List.mem_append.1 hs with hs | hs
  · have := (asc_mono ha m hm).1 s hs
    have := asc_mem ha (getD_mem l m hm)
    omega
  · rw [List.mem_singleton] at hs; subst hs; exact h

theorem drop_ge {l : List Sp} {lo c : Int} (ha : ascB lo l = true) (m : Nat) (hm : m < l.length) (h : c ≤ (l.getD m sp0).2.1) : ∀ s ∈ l.drop m, c ≤ s.2.1 := by
  intro s hs
  rw [drop_cons_sp l m hm] at hs
  rcases List.mem_cons.1 hs with rfl | hs
  · exact h
  · have := (asc_mono ha m hm).2 s hs
    have := asc_mem ha (List.mem_of_mem_drop hs)
    omega

set_option maxHeartbeats 1000000 in
theorem first_any (p : Option Addr) (n cp : Nat) (l : List Sp) (c : Int) (w : World) (hl : l.length = n) (hn : n ≤ 256) (hin : SpIn w p l) (ha : ascB 0 l = true) :
    Calls Try.prog 38 #[.slice p n cp, .int .i64 c] w (FirstPost l c w) := by
  have HI := Lib.hid hin
  have HL := Lib.hid hl
  have HA := Lib.hid ha
  clear hin hl ha
  go_enter Try.func38, Try.ntmps38
  go_wp2
  go_loop [5, 6] (fun x y => ∃ a b : Nat, a ≤ b ∧ b ≤ n ∧ x = .int .i64 a ∧ y = .int .i64 b ∧ Hid (∀ s ∈ l.take a, s.2.1 < c) ∧ Hid (∀ s ∈ l.drop b, c ≤ s.2.1)) (fun x y => (intOf y - intOf x).toNat)
  case atStart =>
    refine ⟨0, n, Nat.zero_le _, Nat.le_refl _, rfl, rfl, by simp [Hid], ?_⟩
    unfold Hid; rw [List.drop_of_length_le (Nat.le_of_eq HL.out)]; simp
  case round =>
    obtain ⟨a, b, hab, hbn, rfl, rfl, h1, h2⟩ := hrel
    by_cases hlt : a < b
    · obtain ⟨m, hm⟩ : ∃ m : Nat, m = a + (b - a) / 2 := ⟨_, rfl⟩
      have hma : a ≤ m := by omega
      have hmb : m < b := by omega
      have hmn : m < l.length := by rw [HL.out]; omega
      have hmid : (a : Int) + ((b : Int) - a) / 2 = (m : Int) := by omega
      obtain ⟨g, off, rfl, hc1, hc2, hc3⟩ := HI.out m hmn
      obtain ⟨⟨f, t, v⟩, hs⟩ : ∃ s, l.getD m sp0 = s := ⟨_, rfl⟩
      rw [hs] at hc1 hc2 hc3
      have HS := Lib.hid hs
      clear hs hm
      by_cases htc : t < c
      · have H1 : Hid (∀ s ∈ l.take (m + 1), s.2.1 < c) := take_lt HA.out m hmn (by rw [HS.out]; exact htc)
        go_wp2
        go_round
        case rel => exact ⟨m + 1, b, by omega, hbn, by go_num, rfl, H1, h2⟩
        case measure => simp [intOf]; omega
      · have H2 : Hid (∀ s ∈ l.drop m, c ≤ s.2.1) := drop_ge HA.out m hmn (by rw [HS.out]; simp only; omega)
        go_wp2
        go_round
        case rel => exact ⟨a, m, by omega, by omega, rfl, rfl, h1, H2⟩
        case measure => simp [intOf]; omega
    · obtain rfl : a = b := by omega
      go_wp2
      go_ret
      exact ⟨a, rfl, by rw [HL.out]; omega, h1.out, h2.out, rfl⟩

/-- Find's answer behind the search. -/
theorem find_of_first {l : List Sp} {c : Int} (ha : ascB 0 l = true) (r : Nat) (h1 : ∀ s ∈ l.take r, s.2.1 < c) (h2 : ∀ s ∈ l.drop r, c ≤ s.2.1) :
    (r = l.length → val l c = none) ∧ (r < l.length → c < (l.getD r sp0).1 → val l c = none) ∧ (r < l.length → (l.getD r sp0).1 ≤ c → val l c = some (l.getD r sp0).2.2) := by
  refine ⟨fun h => ?_, fun h hc => ?_, fun h hc => ?_⟩
  · rw [val_split r h1, h, List.drop_length]; rfl
  · rw [val_split r h1]
    have := asc_drop r ha
    rw [drop_cons_sp l r h, asc_cons] at this
    rw [drop_cons_sp l r h, val_cons, if_neg (by omega)]
    exact val_none this.2.2.2 (.inl (by omega))
  · rw [val_split r h1, drop_cons_sp l r h, val_cons, if_pos ⟨hc, h2 _ (by rw [drop_cons_sp l r h]; simp)⟩]

set_option maxHeartbeats 1000000 in
theorem find_any (p : Option Addr) (n cp : Nat) (l : List Sp) (c : Int) (w : World) (hl : l.length = n) (hn : n ≤ maxLen) (hin : SpIn w p l) :
    Calls Try.prog 18 #[.slice p n cp, .int .i64 c] w fun e w' => e = .returned (.tuple #[.int .i64 (findS l c).1, .bool (findS l c).2]) ∧ Below w.heap.size w w' := by
  have HI := Lib.hid hin
  have HL := Lib.hid hl
  clear hin hl
  cases hv : validS l with
  | false =>
    have HF := Lib.hid (findS_inv (c := c) hv)
    have HV := Lib.hid hv
    clear hv
    go_enter Try.func18, Try.ntmps18
    go_wp2_with fail
    refine (isValid_at p n cp l false _ HL hn HI.out HV).mono ?_
    rintro e w1 ⟨rfl, hb1⟩
    have HB := Lib.hid hb1
    clear hb1
    go_wp2
    go_ret2
    rw [HF.out]
    exact ⟨rfl, HB.out⟩
  | true =>
    have HV := Lib.hid hv
    have hn2 : n ≤ 256 := by rw [← HL.out]; exact valid_len hv
    have HA := Lib.hid (valid_asc hv)
    clear hv
    go_enter Try.func18, Try.ntmps18
    go_wp2_with fail
    refine (isValid_at p n cp l true _ HL hn HI.out HV).mono ?_
    rintro e w1 ⟨rfl, hb1⟩
    have HB := Lib.hid hb1
    have HI1 := Lib.hid (HI.out.below hb1)
    clear hb1
    go_wp2_with fail
    refine (first_any p n cp l c _ HL.out hn2 HI1.out HA.out).mono ?_
    rintro e w2 ⟨r, rfl, hr, h1, h2, rfl⟩
    obtain ⟨f1, f2, f3⟩ := find_of_first HA.out r h1 h2
    rw [HL.out] at hr f1 f2 f3
    clear h1 h2
    by_cases hrn : r = n
    · have HF := Lib.hid (findS_none HV.out (f1 hrn))
      subst hrn
      clear f1 f2 f3
      go_wp2
      go_ret2
      rw [HF.out]
      exact ⟨rfl, HB.out⟩
    · have hlt : r < n := by omega
      have hne : ((r : Int) == (n : Int)) = false := by simp; omega
      obtain ⟨g, off, rfl, hc1, hc2, hc3⟩ := HI1.out r (by rw [HL.out]; exact hlt)
      obtain ⟨⟨f, t, v⟩, hs⟩ : ∃ s, l.getD r sp0 = s := ⟨_, rfl⟩
      rw [hs] at hc1 hc2 hc3 f2 f3
      simp only at hc1 hc2 hc3 f2 f3
      clear hrn f1 hs
      by_cases hcf : c < f
      · have HF := Lib.hid (findS_none HV.out (f2 hlt hcf))
        clear f2 f3
        go_wp2
        go_ret2
        rw [HF.out]
        exact ⟨rfl, HB.out⟩
      · have HF := Lib.hid (findS_some HV.out (f3 hlt (by omega)))
        clear f2 f3
        go_wp2
        go_ret2
        rw [HF.out]
        exact ⟨rfl, HB.out⟩

/-- Check. -/
def checkS (l : List Sp) (lo hi : Int) : Bool := validS l && l.all fun s => decide (lo ≤ s.1) && decide (s.2.1 ≤ hi)

theorem check_ends {l : List Sp} (ha : ascB 0 l = true) (m : Nat) (hm : l.length = m + 1) (lo hi : Int) :
    (l.all fun s => decide (lo ≤ s.1) && decide (s.2.1 ≤ hi)) = (decide (lo ≤ (l.getD 0 sp0).1) && decide ((l.getD m sp0).2.1 ≤ hi)) := by
  rw [Bool.eq_iff_iff, List.all_eq_true]
  simp only [Bool.and_eq_true, decide_eq_true_eq]
  constructor
  · intro h
    exact ⟨(h _ (getD_mem l 0 (by omega))).1, (h _ (getD_mem l m (by omega))).2⟩
  · rintro ⟨h1, h2⟩ s hs
    have e0 := drop_cons_sp l 0 (by omega)
    have h0 := asc_mem ha (getD_mem l 0 (by omega))
    have hm' := asc_mem ha (getD_mem l m (by omega))
    have em := take_snoc_sp l m (by omega)
    rw [List.take_of_length_le (by omega)] at em
    constructor
    · rw [List.drop_zero] at e0
      rw [e0] at hs
      rcases List.mem_cons.1 hs with rfl | hs
      · exact h1
      · have := (asc_mono ha 0 (by omega)).2 s hs; omega
    · rw [em] at hs
      rcases List.mem_append.1 hs with hs | hs
      · have := (asc_mono ha m (by omega)).1 s hs; omega
      · rw [List.mem_singleton] at hs; subst hs; exact h2

set_option maxHeartbeats 1000000 in
theorem check_any (p : Option Addr) (n cp : Nat) (l : List Sp) (lo hi : Int) (w : World) (hl : l.length = n) (hn : n ≤ maxLen) (hin : SpIn w p l) :
    Calls Try.prog 14 #[.slice p n cp, .int .i64 lo, .int .i64 hi] w fun e w' => e = .returned (.bool (checkS l lo hi)) ∧ Below w.heap.size w w' := by
  have HI := Lib.hid hin
  have HL := Lib.hid hl
  clear hin hl
  cases hv : validS l with
  | false =>
    have HF : Hid (checkS l lo hi = false) := by unfold Hid checkS; rw [hv]; rfl
    have HV := Lib.hid hv
    clear hv
    go_enter Try.func14, Try.ntmps14
    go_wp2_with fail
    refine (isValid_at p n cp l false _ HL hn HI.out HV).mono ?_
    rintro e w1 ⟨rfl, hb1⟩
    have HB := Lib.hid hb1
    clear hb1
    go_wp2
    go_ret
    rw [HF.out]
    exact ⟨rfl, HB.out⟩
  | true =>
    have hn2 : n ≤ 256 := by rw [← HL.out]; exact valid_len hv
    have hasc := valid_asc hv
    have HV := Lib.hid hv
    by_cases h0 : n = 0
    · have HF : Hid (checkS l lo hi = true) := by
        unfold Hid checkS
        rw [hv, List.eq_nil_of_length_eq_zero (HL.out.trans h0)]; rfl
      subst h0
      clear hv hasc
      go_enter Try.func14, Try.ntmps14
      go_wp2_with fail
      refine (isValid_at p 0 cp l true _ HL hn HI.out HV).mono ?_
      rintro e w1 ⟨rfl, hb1⟩
      have HB := Lib.hid hb1
      clear hb1
      go_wp2
      go_ret
      rw [HF.out]
      exact ⟨rfl, HB.out⟩
    · obtain ⟨m, rfl⟩ : ∃ m, n = m + 1 := ⟨n - 1, by omega⟩
      have hc := check_ends hasc m HL.out lo hi
      have HF : Hid (checkS l lo hi = (decide (lo ≤ (l.getD 0 sp0).1) && decide ((l.getD m sp0).2.1 ≤ hi))) := by
        unfold Hid checkS; rw [hv, hc]; rfl
      obtain ⟨⟨f, t0, v0⟩, hs⟩ : ∃ s, l.getD 0 sp0 = s := ⟨_, rfl⟩
      obtain ⟨⟨f1, t, v1⟩, hs1⟩ : ∃ s, l.getD m sp0 = s := ⟨_, rfl⟩
      rw [hs, hs1] at HF
      have HS := Lib.hid hs
      have HS1 := Lib.hid hs1
      clear hv hasc hc hs hs1 h0
      go_enter Try.func14, Try.ntmps14
      go_wp2_with fail
      refine (isValid_at p (m + 1) cp l true _ HL hn HI.out HV).mono ?_
      rintro e w1 ⟨rfl, hb1⟩
      have HB := Lib.hid hb1
      have HI1 := Lib.hid (HI.out.below hb1)
      clear hb1
      obtain ⟨g, off, rfl, hc1, hc2, hc3⟩ := HI1.out 0 (by rw [HL.out]; omega)
      obtain ⟨g', off', e', hd1, hd2, hd3⟩ := HI1.out m (by rw [HL.out]; omega)
      injection e' with e'
      injection e' with e1 e2
      subst e1; subst e2
      rw [HS.out] at hc1
      rw [HS1.out] at hd2
      simp only [Nat.zero_mul, Nat.add_zero] at hc1
      simp only at hd2
      clear hc2 hc3 hd1 hd3
      have hne : ((m : Int) + 1 == 0) = false := by simp; omega
      by_cases h1 : lo ≤ f
      · by_cases h2 : t ≤ hi
        · have HG : Hid (checkS l lo hi = true) := by unfold Hid; rw [HF.out]; simp [h1, h2]
          go_wp2
          go_ret
          rw [HG.out]
          exact ⟨rfl, HB.out⟩
        · have HG : Hid (checkS l lo hi = false) := by unfold Hid; rw [HF.out]; simp [h1, h2]
          have hd : decide (t ≤ hi) = false := by simp; omega
          go_wp2
          go_ret
          rw [HG.out]
          exact ⟨rfl, HB.out⟩
      · have HG : Hid (checkS l lo hi = false) := by unfold Hid; rw [HF.out]; simp [h1]
        have hd : decide (lo ≤ f) = false := by simp; omega
        go_wp2
        go_ret
        rw [HG.out]
        exact ⟨rfl, HB.out⟩

/-- Count. -/
def cntS (l : List Sp) : Int := if validS l = true then cnt l else 0

set_option maxHeartbeats 1000000 in
theorem count_any (p : Option Addr) (n cp : Nat) (l : List Sp) (w : World) (hl : l.length = n) (hn : n ≤ maxLen) (hin : SpIn w p l) :
    Calls Try.prog 23 #[.slice p n cp] w fun e w' => e = .returned (.int .i64 (cntS l)) ∧ Below w.heap.size w w' := by
  have HI := Lib.hid hin
  have HL := Lib.hid hl
  clear hin hl
  cases hv : validS l with
  | false =>
    have HF : Hid (cntS l = 0) := by unfold Hid cntS; rw [if_neg (by simp [hv])]
    have HV := Lib.hid hv
    clear hv
    go_enter Try.func23, Try.ntmps23
    go_wp2_with fail
    refine (isValid_at p n cp l false _ HL hn HI.out HV).mono ?_
    rintro e w1 ⟨rfl, hb1⟩
    have HB := Lib.hid hb1
    clear hb1
    go_wp2
    go_ret
    rw [HF.out]
    exact ⟨rfl, HB.out⟩
  | true =>
    have HF : Hid (cntS l = cnt l) := by unfold Hid cntS; rw [if_pos hv]
    have hn2 : n ≤ 256 := by rw [← HL.out]; exact valid_len hv
    have HA := Lib.hid (valid_asc hv)
    have HV := Lib.hid hv
    clear hv
    go_enter Try.func23, Try.ntmps23
    go_wp2_with fail
    refine (isValid_at p n cp l true _ HL hn HI.out HV).mono ?_
    rintro e w1 ⟨rfl, hb1⟩
    have HB1 := Lib.hid hb1
    have HI1 := Lib.hid (HI.out.below hb1)
    clear hb1
    go_wp2
    go_loopw [3, 11] (fun v i wr => ∃ k : Nat, k ≤ n ∧ i = .int .i64 k ∧ (∃ z : Int, 0 ≤ z ∧ z ≤ 1114112 ∧ v = .int .i64 z ∧ Hid (cnt (l.take k) = z)) ∧ Hid (Below w1.heap.size w1 wr)) (fun _ i _ => n - (intOf i).toNat)
    case atStart => exact ⟨0, Nat.zero_le _, rfl, ⟨0, by omega, by omega, rfl, rfl⟩, Below.refl _ _⟩
    case round =>
      obtain ⟨k, hk, rfl, ⟨z, hz0, hz1, rfl, hz⟩, hbel⟩ := hrel
      by_cases hlt : k < n
      · have hkl : k < l.length := by rw [HL.out]; exact hlt
        obtain ⟨b, off, rfl, hc1, hc2, hc3⟩ := (HI1.out.below hbel.out) k hkl
        obtain ⟨a1, a2, a3⟩ := asc_getD HA.out k hkl
        have hbd := cnt_bd (asc_take (k + 1) HA.out)
        have hle := ends_le (asc_take (k + 1) HA.out) (by omega)
        have hsn : cnt (l.take (k + 1)) = z + ((l.getD k sp0).2.1 - (l.getD k sp0).1 + 1) := by rw [take_snoc_sp l k hkl, cnt_snoc, hz.out]
        obtain ⟨⟨f, t, v⟩, hs⟩ : ∃ s, l.getD k sp0 = s := ⟨_, rfl⟩
        rw [hs] at hc1 hc2 hc3 a1 a2 a3 hsn
        simp only at hc1 hc2 hc3 a1 a2 a3 hsn
        have hb0 : z + (t - f + 1) ≤ 1114112 := by omega
        have HC := Lib.hid hsn
        clear hs hsn hbd hle
        go_wp2
        go_roundw
        case rel => exact ⟨k + 1, by omega, by go_num, ⟨z + (t - f + 1), by omega, hb0, by go_num, HC⟩, hbel.out.alloc hbel.out.size _⟩
        case measure => simp [intOf]; omega
      · obtain rfl : k = n := by omega
        have HZ : Hid (cnt l = z) := by
          unfold Hid; rw [← hz.out, List.take_of_length_le (Nat.le_of_eq HL.out)]
        go_wp2
        go_ret
        rw [HF.out, HZ.out]
        exact ⟨rfl, HB1.out.trans (hbel.out.mono HB1.out.size)⟩

/-- The error of a change, apart from a list that is too long. -/
def chgS (l : List Sp) (f t : Int) : Int := if validS l = false then 1 else if f < 0 ∨ t < f ∨ 1114111 < t then 3 else 0

set_option maxHeartbeats 1000000 in
theorem change_any (p : Option Addr) (n cp : Nat) (l : List Sp) (f t : Int) (w : World) (hl : l.length = n) (hn : n ≤ maxLen) (hin : SpIn w p l) :
    Calls Try.prog 32 #[.slice p n cp, .int .i64 f, .int .i64 t] w fun e w' => e = .returned (.int .i64 (chgS l f t)) ∧ Below w.heap.size w w' := by
  have HI := Lib.hid hin
  have HL := Lib.hid hl
  clear hin hl
  cases hv : validS l with
  | false =>
    have HF : Hid (chgS l f t = 1) := by unfold Hid chgS; rw [if_pos hv]
    have HV := Lib.hid hv
    clear hv
    go_enter Try.func32, Try.ntmps32
    go_wp2_with fail
    refine (isValid_at p n cp l false _ HL hn HI.out HV).mono ?_
    rintro e w1 ⟨rfl, hb1⟩
    have HB := Lib.hid hb1
    clear hb1
    go_wp2
    go_ret
    rw [HF.out]
    exact ⟨rfl, HB.out⟩
  | true =>
    have HV := Lib.hid hv
    by_cases hr : f < 0 ∨ t < f ∨ 1114111 < t
    · have HF : Hid (chgS l f t = 3) := by unfold Hid chgS; rw [if_neg (by simp [hv]), if_pos hr]
      have HR := Lib.hid hr
      clear hv hr
      go_enter Try.func32, Try.ntmps32
      go_wp2_with fail
      refine (isValid_at p n cp l true _ HL hn HI.out HV).mono ?_
      rintro e w1 ⟨rfl, hb1⟩
      have HB := Lib.hid hb1
      clear hb1
      go_wp2
      all_goals first
        | (exfalso; have := HR.out; omega)
        | (go_ret; rw [HF.out]; exact ⟨rfl, HB.out⟩)
    · have HF : Hid (chgS l f t = 0) := by unfold Hid chgS; rw [if_neg (by simp [hv]), if_neg hr]
      have r1 : 0 ≤ f := by omega
      have r2 : f ≤ t := by omega
      have r3 : t ≤ 1114111 := by omega
      clear hv hr
      go_enter Try.func32, Try.ntmps32
      go_wp2_with fail
      refine (isValid_at p n cp l true _ HL hn HI.out HV).mono ?_
      rintro e w1 ⟨rfl, hb1⟩
      have HB := Lib.hid hb1
      clear hb1
      go_wp2
      go_ret
      rw [HF.out]
      exact ⟨rfl, HB.out⟩

theorem limS_big {l : List Sp} (h : 256 < l.length) : limS l = ([], 7) := by rw [limS, if_pos h]
theorem limS_ok {l : List Sp} (h : l.length ≤ 256) : limS l = (l, 0) := by rw [limS, if_neg (by omega)]

/-- A list and an error; the list is the call's own. -/
def RetSp (B : Nat) (r : List Sp × Int) (e : Ending) (w' : World) : Prop :=
  ∃ v, e = .returned (.tuple #[v, .int .i64 r.2]) ∧ Spans w' B v r.1

set_option maxHeartbeats 400000 in
theorem limit_any (B : Nat) (p : Option Addr) (n cp : Nat) (l : List Sp) (w : World) (hl : l.length = n) (hn : n ≤ 1114112) (ho : Spans w B (.slice p n cp) l) :
    Calls Try.prog 33 #[.slice p n cp] w fun e w' => RetSp B (limS l) e w ∧ w = w' := by
  have HO := Lib.hid ho
  by_cases hbig : 256 < n
  · have HF := Lib.hid (limS_big (l := l) (by omega))
    clear ho hl
    go_enter Try.func33, Try.ntmps33
    go_wp2
    go_ret2
    rw [HF.out]
    exact ⟨⟨_, rfl, Spans.nil _ _⟩, rfl⟩
  · have HF := Lib.hid (limS_ok (l := l) (by omega))
    clear ho hl
    go_enter Try.func33, Try.ntmps33
    go_wp2
    go_ret2
    rw [HF.out]
    exact ⟨⟨_, rfl, HO.out⟩, rfl⟩

def normS (l : List Sp) : List Sp := if validS l = true then joinS l else []

set_option maxHeartbeats 1000000 in
theorem normal_any (p : Option Addr) (n cp : Nat) (l : List Sp) (w : World) (hl : l.length = n) (hn : n ≤ maxLen) (hin : SpIn w p l) :
    Calls Try.prog 20 #[.slice p n cp] w (OwnPost (normS l) w) := by
  have HI := Lib.hid hin
  have HL := Lib.hid hl
  clear hin hl
  cases hv : validS l with
  | false =>
    have HF : Hid (normS l = []) := by unfold Hid normS; rw [if_neg (by simp [hv])]
    have HV := Lib.hid hv
    clear hv
    go_enter Try.func20, Try.ntmps20
    go_wp2_with fail
    refine (isValid_at p n cp l false _ HL hn HI.out HV).mono ?_
    rintro e w1 ⟨rfl, hb1⟩
    have HB := Lib.hid hb1
    clear hb1
    go_wp2
    go_ret
    rw [HF.out]
    exact ⟨_, rfl, Spans.nil _ _, HB.out⟩
  | true =>
    have HF : Hid (normS l = joinS l) := by unfold Hid normS; rw [if_pos hv]
    have HA := Lib.hid (valid_asc hv)
    have HV := Lib.hid hv
    clear hv
    go_enter Try.func20, Try.ntmps20
    go_wp2_with fail
    refine (isValid_at p n cp l true _ HL hn HI.out HV).mono ?_
    rintro e w1 ⟨rfl, hb1⟩
    have HB := Lib.hid hb1
    clear hb1
    go_wp2_with fail
    refine (join_any p n cp l _ HL.out (HI.out.below HB.out) HA.out).mono ?_
    rintro e w2 ⟨v2, rfl, ho2, hb2⟩
    have HO := Lib.hid (ho2.mono HB.out.size)
    have HB2 := Lib.hid (HB.out.trans (hb2.mono HB.out.size))
    clear ho2 hb2
    go_wp2
    go_ret
    rw [HF.out]
    exact ⟨_, rfl, HO.out, HB2.out⟩

end Go.Proofs.Ytkapjihjbflliaa
