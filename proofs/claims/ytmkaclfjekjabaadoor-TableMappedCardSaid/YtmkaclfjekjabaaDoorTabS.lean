/-
  table: searching lists of spans and mappings.
-/
import Derived.Test.YtmkaclfjekjabaaDoorTabMem
import Derived.Test.YtmkaclfjekjabaaDoorRanSpec2
import Derived.Test.YtmkaclfjekjabaaDoorRanA
namespace Go.Proofs.YtmkaclfjekjabaaDoor
open Go.RowKit

def cmpS (f t c : Int) : Int := if t < c then -1 else if c < f then 1 else 0

theorem cmpS_any (f t v c : Int) (w : World) :
    Calls Tryd.prog 106 #[.agg #[.int .i64 f, .int .i64 t, .int .i64 v], .int .i64 c] w (Gives (.int .i64 (cmpS f t c)) w) := by
  by_cases h1 : t < c
  · have HC : Hid (cmpS f t c = -1) := by unfold Hid cmpS; rw [if_pos h1]
    go_enter Tryd.func106, Tryd.ntmps106
    go_wp2
    go_ret
    rw [HC.out]
    exact ⟨rfl, (Below.refl _ _).alloc (Nat.le_refl _) _⟩
  · by_cases h2 : c < f
    · have HC : Hid (cmpS f t c = 1) := by unfold Hid cmpS; rw [if_neg h1, if_pos h2]
      go_enter Tryd.func106, Tryd.ntmps106
      go_wp2
      go_ret
      rw [HC.out]
      exact ⟨rfl, (Below.refl _ _).alloc (Nat.le_refl _) _⟩
    · have HC : Hid (cmpS f t c = 0) := by unfold Hid cmpS; rw [if_neg h1, if_neg h2]
      go_enter Tryd.func106, Tryd.ntmps106
      go_wp2
      go_ret
      rw [HC.out]
      exact ⟨rfl, (Below.refl _ _).alloc (Nat.le_refl _) _⟩

theorem cmpS_at (f t v c z : Int) (w : World) (hz : Hid (cmpS f t c = z)) :
    Calls Tryd.prog 106 #[.agg #[.int .i64 f, .int .i64 t, .int .i64 v], .int .i64 c] w (Gives (.int .i64 z) w) := hz.out ▸ cmpS_any f t v c w

/-- What a search in spans returns. -/
def FndS (l : List Sp) (c : Int) (w : World) (e : Ending) (w' : World) : Prop :=
  ∃ i : Nat, e = .returned (.tuple #[.int .i64 i, .bool (val l c).isSome]) ∧ i ≤ l.length ∧ ((val l c).isSome = true → i < l.length ∧ val l c = some (l.getD i sp0).2.2) ∧ Below w.heap.size w w'

theorem sp_take_lt {l : List Sp} {lo c : Int} (ha : ascB lo l = true) (m : Nat) (hm : m < l.length) (h : (l.getD m sp0).2.1 < c) : ∀ s ∈ l.take (m + 1), s.2.1 < c := by
  intro s hs
  rw [take_snoc_sp l m hm] at hs
  rcases List.mem_append.1 hs with hs | hs
  · have := (asc_mono ha m hm).1 s hs
    have := asc_mem ha (getD_mem l m hm)
    omega
  · rw [List.mem_singleton] at hs; subst hs; exact h

theorem sp_drop_ge {l : List Sp} {lo c : Int} (ha : ascB lo l = true) (m : Nat) (hm : m < l.length) (h : c ≤ (l.getD m sp0).2.1) : ∀ s ∈ l.drop m, c ≤ s.2.1 := by
  intro s hs
  rw [drop_cons_sp l m hm] at hs
  rcases List.mem_cons.1 hs with rfl | hs
  · exact h
  · have := (asc_mono ha m hm).2 s hs
    have := asc_mem ha (List.mem_of_mem_drop hs)
    omega

theorem val_of_first {l : List Sp} {c : Int} (ha : ascB 0 l = true) (r : Nat) (h1 : ∀ s ∈ l.take r, s.2.1 < c) (h2 : ∀ s ∈ l.drop r, c ≤ s.2.1) :
    (r = l.length → val l c = none) ∧ (r < l.length → c < (l.getD r sp0).1 → val l c = none) ∧ (r < l.length → (l.getD r sp0).1 ≤ c → val l c = some (l.getD r sp0).2.2) := by
  refine ⟨fun h => ?_, fun h hc => ?_, fun h hc => ?_⟩
  · rw [val_split r h1, h, List.drop_length]; rfl
  · rw [val_split r h1]
    have := asc_drop r ha
    rw [drop_cons_sp l r h, asc_cons] at this
    rw [drop_cons_sp l r h, val_cons, if_neg (by omega)]
    exact val_none this.2.2.2 (.inl (by omega))
  · rw [val_split r h1, drop_cons_sp l r h, val_cons, if_pos ⟨hc, h2 _ (by rw [drop_cons_sp l r h]; simp)⟩]

set_option maxRecDepth 100000 in
set_option maxHeartbeats 4000000 in
theorem bsS_any (p : Option Addr) (n cp : Nat) (l : List Sp) (c : Int) (w : World) (hl : l.length = n) (hn : n ≤ 17592186043904) (hin : SpIn w p l) (ha : ascB 0 l = true) :
    Calls Tryd.prog 105 #[.slice p n cp, .int .i64 c, .func (.func 106) #[] #[]] w (FndS l c w) := by
  have HI := Lib.hid hin
  have HL := Lib.hid hl
  have HA := Lib.hid ha
  clear hin hl ha
  go_enter Tryd.func105, Tryd.ntmps105
  go_wp2
  go_loopw [9, 10] (fun x y wr => ∃ a b : Nat, a ≤ b ∧ b ≤ n ∧ x = .int .i64 a ∧ y = .int .i64 b ∧ Hid (∀ s ∈ l.take a, s.2.1 < c) ∧ Hid (∀ s ∈ l.drop b, c ≤ s.2.1) ∧ Hid (Below w.heap.size w wr)) (fun x y _ => (intOf y - intOf x).toNat)
  case atStart =>
    refine ⟨0, n, Nat.zero_le _, Nat.le_refl _, rfl, rfl, by simp [Hid], ?_, Below.refl _ _⟩
    unfold Hid; rw [List.drop_of_length_le (Nat.le_of_eq HL.out)]; simp
  case round =>
    obtain ⟨a, b, hab, hbn, rfl, rfl, h1, h2, hb⟩ := hrel
    by_cases hlt : a < b
    · obtain ⟨m, hm⟩ : ∃ m : Nat, m = (a + b) / 2 := ⟨_, rfl⟩
      have hma : a ≤ m := by omega
      have hmb : m < b := by omega
      have hmn : m < l.length := by rw [HL.out]; omega
      have hmid : ((a : Int) + (b : Int)) / 2 = (m : Int) := by omega
      obtain ⟨g, off, rfl, hc1, hc2, hc3⟩ := (HI.out.below hb.out) m hmn
      obtain ⟨⟨f, t, v⟩, hs⟩ : ∃ s, l.getD m sp0 = s := ⟨_, rfl⟩
      rw [hs] at hc1 hc2 hc3
      have HS := Lib.hid hs
      clear hs hm
      obtain ⟨z, hz⟩ : ∃ z, Hid (cmpS f t c = z) := ⟨_, rfl⟩
      by_cases htc : t < c
      · have hzn : z < 0 := by rw [← hz.out, cmpS, if_pos htc]; omega
        have H1 : Hid (∀ s ∈ l.take (m + 1), s.2.1 < c) := sp_take_lt HA.out m hmn (by rw [HS.out]; exact htc)
        have hd : decide (z < 0) = true := decide_eq_true hzn
        go_wp2_with fail
        refine (cmpS_at f t v c z _ hz).mono ?_
        rintro e w2 ⟨rfl, hb2⟩
        have HB2 := Lib.hid (hb.out.trans (hb2.mono hb.out.size))
        clear hb2
        go_wp2
        go_roundw
        case rel => exact ⟨m + 1, b, by omega, hbn, by go_num, rfl, H1, h2, HB2⟩
        case measure => simp [intOf]; omega
      · have hzn : 0 ≤ z := by rw [← hz.out, cmpS, if_neg htc]; split <;> omega
        have H2 : Hid (∀ s ∈ l.drop m, c ≤ s.2.1) := sp_drop_ge HA.out m hmn (by rw [HS.out]; simp only; omega)
        have hd : decide (z < 0) = false := decide_eq_false (by omega)
        go_wp2_with fail
        refine (cmpS_at f t v c z _ hz).mono ?_
        rintro e w2 ⟨rfl, hb2⟩
        have HB2 := Lib.hid (hb.out.trans (hb2.mono hb.out.size))
        clear hb2
        go_wp2
        go_roundw
        case rel => exact ⟨a, m, by omega, by omega, rfl, rfl, h1, H2, HB2⟩
        case measure => simp [intOf]; omega
    · obtain rfl : a = b := by omega
      obtain ⟨f1, f2, f3⟩ := val_of_first HA.out a h1.out h2.out
      rw [HL.out] at f1 f2 f3
      by_cases hlt2 : a < n
      · obtain ⟨g, off, rfl, hc1, hc2, hc3⟩ := (HI.out.below hb.out) a (by rw [HL.out]; exact hlt2)
        have hto : c ≤ (l.getD a sp0).2.1 := h2.out _ (by rw [drop_cons_sp l a (by rw [HL.out]; exact hlt2)]; simp)
        obtain ⟨⟨f, t, v⟩, hs⟩ : ∃ s, l.getD a sp0 = s := ⟨_, rfl⟩
        rw [hs] at hc1 hc2 hc3 f2 f3 hto
        simp only at hc1 hc2 hc3 f2 f3 hto
        have HS := Lib.hid hs
        clear hs f1
        obtain ⟨z, hz⟩ : ∃ z, Hid (cmpS f t c = z) := ⟨_, rfl⟩
        by_cases hcf : c < f
        · have hz1 : (z == 0) = false := by rw [← hz.out, cmpS, if_neg (by omega), if_pos hcf]; rfl
          have HV := Lib.hid (f2 hlt2 hcf)
          clear f2 f3
          go_wp2_with fail
          refine (cmpS_at f t v c z _ hz).mono ?_
          rintro e w2 ⟨rfl, hb2⟩
          have HB2 := Lib.hid (hb.out.trans (hb2.mono hb.out.size))
          clear hb2
          go_wp2
          go_ret2
          exact ⟨a, by rw [HV.out]; rfl, by rw [HL.out]; omega, by rw [HV.out]; simp, HB2.out⟩
        · have hz1 : (z == 0) = true := by rw [← hz.out, cmpS, if_neg (by omega), if_neg hcf]; rfl
          have HV := Lib.hid (f3 hlt2 (by omega))
          clear f2 f3
          go_wp2_with fail
          refine (cmpS_at f t v c z _ hz).mono ?_
          rintro e w2 ⟨rfl, hb2⟩
          have HB2 := Lib.hid (hb.out.trans (hb2.mono hb.out.size))
          clear hb2
          go_wp2
          go_ret2
          exact ⟨a, by rw [HV.out]; rfl, by rw [HL.out]; omega, fun _ => ⟨by rw [HL.out]; exact hlt2, by rw [HV.out, HS.out]⟩, HB2.out⟩
      · have HV := Lib.hid (f1 (by omega))
        clear f1 f2 f3
        go_wp2
        go_ret2
        exact ⟨a, by rw [HV.out]; rfl, by rw [HL.out]; omega, by rw [HV.out]; simp, hb.out⟩

/-- findSpan. -/
theorem findSpan_any (v0 : Value) (l : List Sp) (c : Int) (w : World) (hv : SpV w v0 l) (ha : ascB 0 l = true) :
    Calls Tryd.prog 89 #[v0, .int .i64 c] w (FndS l c w) := by
  obtain ⟨p, cp, rfl, hin, hn⟩ := hv
  have HI := Lib.hid hin
  have HA := Lib.hid ha
  clear hin ha
  go_enter Tryd.func89, Tryd.ntmps89
  go_wp2_with fail
  refine (bsS_any p l.length cp l c _ rfl hn HI.out HA.out).mono ?_
  rintro e w1 ⟨i, rfl, hi, hf, hb⟩
  have HF := Lib.hid hf
  have HB := Lib.hid hb
  clear hf hb
  go_wp2
  go_ret2
  exact ⟨i, rfl, hi, HF.out, HB.out⟩

/-- valueOr. -/
theorem valueOr_any (v0 : Value) (l : List Sp) (c d : Int) (w : World) (hv : SpV w v0 l) (ha : ascB 0 l = true) :
    Calls Tryd.prog 48 #[v0, .int .i64 c, .int .i64 d] w (Gives (.int .i64 ((val l c).getD d)) w) := by
  obtain ⟨p, cp, rfl, hin, hn⟩ := hv
  have HI := Lib.hid hin
  have HA := Lib.hid ha
  clear hin ha
  cases hval : val l c with
  | none =>
    have HV := Lib.hid hval
    clear hval
    go_enter Tryd.func48, Tryd.ntmps48
    go_wp2_with fail
    refine (findSpan_any _ l c _ ⟨p, cp, rfl, HI.out, hn⟩ HA.out).mono ?_
    rintro e w1 ⟨i, rfl, hi, hf, hb⟩
    rw [HV.out]
    have HB := Lib.hid hb
    clear hb hf
    simp only [Option.isSome_none]
    go_wp2
    go_ret
    exact ⟨rfl, HB.out⟩
  | some z =>
    have HV := Lib.hid hval
    clear hval
    go_enter Tryd.func48, Tryd.ntmps48
    go_wp2_with fail
    refine (findSpan_any _ l c _ ⟨p, cp, rfl, HI.out, hn⟩ HA.out).mono ?_
    rintro e w1 ⟨i, rfl, hi, hf, hb⟩
    rw [HV.out] at hf ⊢
    obtain ⟨hlt, hz⟩ := hf rfl
    obtain ⟨g, off, rfl, hc1, hc2, hc3⟩ := (HI.out.below hb) i hlt
    injection hz with hz
    rw [← hz] at hc3
    have HB := Lib.hid hb
    clear hb hc1 hc2 hz
    simp only [Option.isSome_some]
    go_wp2
    go_ret
    exact ⟨rfl, HB.out⟩

theorem valueOr_at (v0 : Value) (l : List Sp) (c d z : Int) (w : World) (hv : SpV w v0 l) (ha : ascB 0 l = true) (hz : Hid ((val l c).getD d = z)) :
    Calls Tryd.prog 48 #[v0, .int .i64 c, .int .i64 d] w (Gives (.int .i64 z) w) := hz.out ▸ valueOr_any v0 l c d w hv ha

end Go.Proofs.YtmkaclfjekjabaaDoor
