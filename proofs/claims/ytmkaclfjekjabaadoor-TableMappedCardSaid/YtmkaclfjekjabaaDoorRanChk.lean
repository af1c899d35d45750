/-
  ranges: Check.
-/
import Derived.Test.YtmkaclfjekjabaaDoorRanA
import Derived.Test.YtmkaclfjekjabaaDoorRanSpec2
namespace Go.Proofs.YtmkaclfjekjabaaDoor
open Go.RowKit

theorem isValid_at (p : Option Addr) (n c : Nat) (l : List Sp) (b : Bool) (w : World) (hl : Hid (l.length = n)) (hn : n ≤ maxLen) (hin : SpIn w p l) (hv : Hid (validS l = b)) :
    Calls Tryd.prog 93 #[.slice p n c] w fun e w' => e = .returned (.bool b) ∧ Below w.heap.size w w' := by
  have := isValid_any p n c l w hl.out hn hin
  rw [hv.out] at this
  exact this

theorem valid_asc {l : List Sp} (h : validS l = true) : ascB 0 l = true := by
  simp only [validS, Bool.and_eq_true] at h; exact h.2
theorem valid_len {l : List Sp} (h : validS l = true) : l.length ≤ 256 := by
  simp only [validS, Bool.and_eq_true, decide_eq_true_eq] at h; exact h.1

/-- Check. -/
def checkS (l : List Sp) (lo hi : Int) : Bool := validS l && l.all fun s => decide (lo ≤ s.1) && decide (s.2.1 ≤ hi)

theorem check_ends {l : List Sp} (ha : ascB 0 l = true) (m : Nat) (hm : l.length = m + 1) (lo hi : Int) :
    (l.all fun s => decide (lo ≤ s.1) && decide (s.2.1 ≤ hi)) = (decide (lo ≤ (l.getD 0 sp0).1) && decide ((l.getD m sp0).2.1 ≤ hi)) := by
  rw [Bool.eq_iff_iff, List.all_eq_true]
  simp only [Bool.and_eq_true, decide_eq_true_eq]
  constructor
  · intro h
    exact ⟨(h _ (getD_mem l 0 (by omega))).1, (h _ (getD_mem l m (by omega))).2⟩
  · rintro ⟨h1, h2⟩ s hs
    have e0 := drop_cons_sp l 0 (by omega)
    have h0 := asc_mem ha (getD_mem l 0 (by omega))
    have hm' := asc_mem ha (getD_mem l m (by omega))
    have em := take_snoc_sp l m (by omega)
    rw [List.take_of_length_le (by omega)] at em
    constructor
    · rw [List.drop_zero] at e0
      rw [e0] at hs
      rcases List.mem_cons.1 hs with rfl | hs
      · exact h1
      · have := (asc_mono ha 0 (by omega)).2 s hs; omega
    · rw [em] at hs
      rcases List.mem_append.1 hs with hs | hs
      · have := (asc_mono ha m (by omega)).1 s hs; omega
      · rw [List.mem_singleton] at hs; subst hs; exact h2

set_option maxHeartbeats 1000000 in
theorem check_any (p : Option Addr) (n cp : Nat) (l : List Sp) (lo hi : Int) (w : World) (hl : l.length = n) (hn : n ≤ maxLen) (hin : SpIn w p l) :
    Calls Tryd.prog 52 #[.slice p n cp, .int .i64 lo, .int .i64 hi] w fun e w' => e = .returned (.bool (checkS l lo hi)) ∧ Below w.heap.size w w' := by
  have HI := Lib.hid hin
  have HL := Lib.hid hl
  clear hin hl
  cases hv : validS l with
  | false =>
    have HF : Hid (checkS l lo hi = false) := by unfold Hid checkS; rw [hv]; rfl
    have HV := Lib.hid hv
    clear hv
    go_enter Tryd.func52, Tryd.ntmps52
    go_wp2_with fail
    refine (isValid_at p n cp l false _ HL hn HI.out HV).mono ?_
    rintro e w1 ⟨rfl, hb1⟩
    have HB := Lib.hid hb1
    clear hb1
    go_wp2
    go_ret
    rw [HF.out]
    exact ⟨rfl, HB.out⟩
  | true =>
    have hn2 : n ≤ 256 := by rw [← HL.out]; exact valid_len hv
    have hasc := valid_asc hv
    have HV := Lib.hid hv
    by_cases h0 : n = 0
    · have HF : Hid (checkS l lo hi = true) := by
        unfold Hid checkS
        rw [hv, List.eq_nil_of_length_eq_zero (HL.out.trans h0)]; rfl
      subst h0
      clear hv hasc
      go_enter Tryd.func52, Tryd.ntmps52
      go_wp2_with fail
      refine (isValid_at p 0 cp l true _ HL hn HI.out HV).mono ?_
      rintro e w1 ⟨rfl, hb1⟩
      have HB := Lib.hid hb1
      clear hb1
      go_wp2
      go_ret
      rw [HF.out]
      exact ⟨rfl, HB.out⟩
    · obtain ⟨m, rfl⟩ : ∃ m, n = m + 1 := ⟨n - 1, by omega⟩
      have hc := check_ends hasc m HL.out lo hi
      have HF : Hid (checkS l lo hi = (decide (lo ≤ (l.getD 0 sp0).1) && decide ((l.getD m sp0).2.1 ≤ hi))) := by
        unfold Hid checkS; rw [hv, hc]; rfl
      obtain ⟨⟨f, t0, v0⟩, hs⟩ : ∃ s, l.getD 0 sp0 = s := ⟨_, rfl⟩
      obtain ⟨⟨f1, t, v1⟩, hs1⟩ : ∃ s, l.getD m sp0 = s := ⟨_, rfl⟩
      rw [hs, hs1] at HF
      have HS := Lib.hid hs
      have HS1 := Lib.hid hs1
      clear hv hasc hc hs hs1 h0
      go_enter Tryd.func52, Tryd.ntmps52
      go_wp2_with fail
      refine (isValid_at p (m + 1) cp l true _ HL hn HI.out HV).mono ?_
      rintro e w1 ⟨rfl, hb1⟩
      have HB := Lib.hid hb1
      have HI1 := Lib.hid (HI.out.below hb1)
      clear hb1
      obtain ⟨g, off, rfl, hc1, hc2, hc3⟩ := HI1.out 0 (by rw [HL.out]; omega)
      obtain ⟨g', off', e', hd1, hd2, hd3⟩ := HI1.out m (by rw [HL.out]; omega)
      injection e' with e'
      injection e' with e1 e2
      subst e1; subst e2
      rw [HS.out] at hc1
      rw [HS1.out] at hd2
      simp only [Nat.zero_mul, Nat.add_zero] at hc1
      simp only at hd2
      clear hc2 hc3 hd1 hd3
      have hne : ((m : Int) + 1 == 0) = false := by simp; omega
      by_cases h1 : lo ≤ f
      · by_cases h2 : t ≤ hi
        · have HG : Hid (checkS l lo hi = true) := by unfold Hid; rw [HF.out]; simp [h1, h2]
          go_wp2
          go_ret
          rw [HG.out]
          exact ⟨rfl, HB.out⟩
        · have HG : Hid (checkS l lo hi = false) := by unfold Hid; rw [HF.out]; simp [h1, h2]
          have hd : decide (t ≤ hi) = false := by simp; omega
          go_wp2
          go_ret
          rw [HG.out]
          exact ⟨rfl, HB.out⟩
      · have HG : Hid (checkS l lo hi = false) := by unfold Hid; rw [HF.out]; simp [h1]
        have hd : decide (lo ≤ f) = false := by simp; omega
        go_wp2
        go_ret
        rw [HG.out]
        exact ⟨rfl, HB.out⟩

theorem check_at (p : Option Addr) (n c : Nat) (l : List Sp) (lo hi : Int) (B : Bool) (w : World) (hl : Hid (l.length = n)) (hn : n ≤ maxLen) (hin : SpIn w p l) (hB : Hid (checkS l lo hi = B)) :
    Calls Tryd.prog 52 #[.slice p n c, .int .i64 lo, .int .i64 hi] w fun e w' => e = .returned (.bool B) ∧ Below w.heap.size w w' := by
  have := check_any p n c l lo hi w hl.out hn hin
  rw [hB.out] at this
  exact this

end Go.Proofs.YtmkaclfjekjabaaDoor
