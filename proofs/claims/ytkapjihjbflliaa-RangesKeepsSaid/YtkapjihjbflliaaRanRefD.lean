/-
  The references of ranges: replaced, Set, Clear, Overlay.
-/
import Derived.Test.YtkapjihjbflliaaRanRefC
import Derived.Test.YtkapjihjbflliaaRanF
namespace Go.Proofs.Ytkapjihjbflliaa
open Go.RowKit

theorem Spans.keptBy {w w' : World} {B : Nat} {v u : Value} {l : List Sp} (h : Spans w B v l) (hg : w.grownBy w' u.ownBlock) (hne : ∀ k, u.ownBlock = some k → v.ownBlock ≠ some k) : Spans w' B v l := by
  refine World.ownsRow.kept h hg ?_
  cases hv : v.ownBlock with
  | none => exact .inl rfl
  | some b => exact .inr fun e => hne b e.symm hv

set_option maxHeartbeats 2000000 in
theorem replaced_any (p q : Option Addr) (n m cp d : Nat) (l y : List Sp) (f t : Int) (w : World) (hl : l.length = n) (hm : y.length = m) (hn : n ≤ maxLen) (hm1 : m ≤ 1) (hin : SpIn w p l) (hin2 : SpIn w q y)
    (hP : validS l = true → 0 ≤ f → f ≤ t → t ≤ 1114111 → ascB 0 (beforeS f l ++ y ++ afterS t l) = true) :
    Calls Try.prog 39 #[.slice p n cp, .int .i64 f, .int .i64 t, .slice q m d] w (RetPost (replS l f t y) w) := by
  have HI := Lib.hid hin
  have HJ := Lib.hid hin2
  have HL := Lib.hid hl
  have HM := Lib.hid hm
  clear hin hl hin2 hm
  cases hv : validS l with
  | false =>
    have HF : Hid (replS l f t y = ([], 1)) := by unfold Hid; rw [replS, if_pos hv]
    have HV := Lib.hid hv
    clear hv hP
    go_enter Try.func39, Try.ntmps39
    go_wp2_with fail
    refine (rvalid_at p n cp l false _ HL hn HI.out HV).mono ?_
    rintro e w1 ⟨rfl, hb1⟩
    have HB := Lib.hid hb1
    clear hb1
    go_wp2
    go_ret2
    rw [HF.out]
    exact ⟨⟨_, rfl, Spans.nil _ _⟩, HB.out⟩
  | true =>
    have HV := Lib.hid hv
    by_cases hr : f < 0 ∨ t < f ∨ 1114111 < t
    · have HF : Hid (replS l f t y = ([], 3)) := by unfold Hid; rw [replS, if_neg (by simp [hv]), if_pos hr]
      have HR := Lib.hid hr
      clear hv hr hP
      go_enter Try.func39, Try.ntmps39
      go_wp2_with fail
      refine (rvalid_at p n cp l true _ HL hn HI.out HV).mono ?_
      rintro e w1 ⟨rfl, hb1⟩
      have HB := Lib.hid hb1
      clear hb1
      go_wp2_with fail
      all_goals first
        | (exfalso; have := HR.out; omega)
        | (go_ret2; rw [HF.out]; exact ⟨⟨_, rfl, Spans.nil _ _⟩, HB.out⟩)
    · have r1 : 0 ≤ f := by omega
      have r2 : f ≤ t := by omega
      have r3 : t ≤ 1114111 := by omega
      have hasc := hP hv r1 r2 r3
      obtain ⟨Z, hZ⟩ : ∃ Z, beforeS f l ++ y ++ afterS t l = Z := ⟨_, rfl⟩
      have HF : Hid (replS l f t y = limS (joinS Z)) := by unfold Hid; rw [replS, if_neg (by simp [hv]), if_neg hr, hZ]
      rw [hZ] at hasc
      have hn2 : n ≤ 256 := by rw [← HL.out]; exact valid_len hv
      have hbl := before_length f l
      have hal := after_length t l
      rw [HL.out] at hbl hal
      have HZ := Lib.hid hZ
      have HA := Lib.hid hasc
      have HJL := Lib.hid (asc_length (join_asc hasc))
      have HBL := Lib.hid hbl
      have HAL := Lib.hid hal
      clear hv hr hP hasc hbl hal hZ
      go_enter Try.func39, Try.ntmps39
      go_wp2_with fail
      refine (rvalid_at p n cp l true _ HL hn HI.out HV).mono ?_
      rintro e w1 ⟨rfl, hb1⟩
      have HB := Lib.hid hb1
      clear hb1
      go_wp2_with fail
      refine (before_any p n cp l f _ HL.out (HI.out.below HB.out) (by omega) r1 (by omega)).mono ?_
      rintro e w2 ⟨v2, rfl, ho2, hb2⟩
      have HO2 := Lib.hid (ho2.mono HB.out.size)
      have HB2 := Lib.hid (HB.out.trans (hb2.mono HB.out.size))
      clear ho2 hb2
      go_wp2_with (at_builtin; refine wpList_append_spans (.tmp 27) (.tmp 28) rfl rfl w.heap.size v2 (beforeS f l) rfl HO2.out q m d y HM.out rfl (HJ.out.below HB2.out) (by have := HBL.out; have := HM.out; omega) HB2.out.size ?_; intro v3 w3 ho3 hg3)
      have HO3 := Lib.hid ho3
      have HB3 := Lib.hid (HB2.out.grown hg3 HB2.out.size HO2.out.base)
      clear ho3 hg3
      refine (after_any p n cp l t _ HL.out (HI.out.below HB3.out) (by omega) (by omega) r3).mono ?_
      rintro e w4 ⟨v4, rfl, ho4, hb4⟩
      obtain ⟨p4, c4, rfl, hi4⟩ := ho4.inn
      have HO4 := Lib.hid (HO3.out.below hb4)
      have HI4 := Lib.hid hi4
      have HB4 := Lib.hid (HB3.out.trans (hb4.mono HB3.out.size))
      clear ho4 hb4 hi4
      go_wp2_with (at_builtin; refine wpList_append_spans (.tmp 30) (.tmp 33) rfl rfl w.heap.size v3 (beforeS f l ++ y) rfl HO4.out p4 _ c4 (afterS t l) rfl rfl HI4.out (by have := HBL.out; have := HM.out; have := HAL.out; simp; omega) HB4.out.size ?_; intro v5 w5 ho5 hg5)
      have HB5 := Lib.hid (HB4.out.grown hg5 HB4.out.size HO4.out.base)
      rw [HZ.out] at ho5
      obtain ⟨p5, c5, rfl, hi5⟩ := ho5.inn
      have HI5 := Lib.hid hi5
      clear ho5 hg5 hi5
      refine (merged_any p5 _ c5 Z _ rfl HI5.out HA.out).mono ?_
      rintro e w6 ⟨v6, rfl, ho6, hb6⟩
      obtain ⟨p6, c6, rfl, _⟩ := ho6.inn
      have HO6 := Lib.hid (ho6.mono HB5.out.size)
      have HB6 := Lib.hid (HB5.out.trans (hb6.mono HB5.out.size))
      clear ho6 hb6
      have hJL := HJL.out
      by_cases hbig : 256 < (joinS Z).length
      · have HG := Lib.hid (limS_big hbig)
        go_wp2
        go_ret2
        rw [HF.out, HG.out]
        exact ⟨⟨_, rfl, Spans.nil _ _⟩, HB6.out⟩
      · have HG := Lib.hid (limS_ok (l := joinS Z) (by omega))
        go_wp2
        go_ret2
        rw [HF.out, HG.out]
        exact ⟨⟨_, rfl, HO6.out⟩, HB6.out⟩

theorem replaced_at (p q : Option Addr) (n m cp d : Nat) (l y : List Sp) (f t : Int) (w : World) (hl : l.length = n) (hm : y.length = m) (hn : n ≤ maxLen) (hm1 : m ≤ 1) (hin : SpIn w p l) (hin2 : SpIn w q y)
    (hP : Hid (validS l = true → 0 ≤ f → f ≤ t → t ≤ 1114111 → ascB 0 (beforeS f l ++ y ++ afterS t l) = true)) :
    Calls Try.prog 39 #[.slice p n cp, .int .i64 f, .int .i64 t, .slice q m d] w fun e w' => (∃ v, e = .returned (.tuple #[v, .int .i64 (replS l f t y).2]) ∧ Hid (Spans w' w.heap.size v (replS l f t y).1)) ∧ Below w.heap.size w w' :=
  replaced_any p q n m cp d l y f t w hl hm hn hm1 hin hin2 hP

set_option maxHeartbeats 1000000 in
theorem rset_any (p : Option Addr) (n cp : Nat) (l : List Sp) (f t v : Int) (w : World) (hl : l.length = n) (hn : n ≤ maxLen) (hin : SpIn w p l) :
    Calls Try.prog 25 #[.slice p n cp, .int .i64 f, .int .i64 t, .int .i64 v] w (RetPost (setS l f t v) w) := by
  have HP : Hid (validS l = true → 0 ≤ f → f ≤ t → t ≤ 1114111 → ascB 0 (beforeS f l ++ [(f, t, v)] ++ afterS t l) = true) := fun h0 h1 h2 h3 =>
    (put_facts (valid_asc h0) h1 (by rw [asc_cons]; exact ⟨Int.le_refl _, h2, h3, rfl⟩) (by simp only [ends]; omega) h2).1
  have HI := Lib.hid (hin.alloc (.cells #[.int .i64 f, .int .i64 t, .int .i64 v] 42))
  have HJ := Lib.hid (one_new w f t v 42)
  have HB := Lib.hid ((Below.refl w.heap.size w).alloc (Nat.le_refl _) (.cells #[.int .i64 f, .int .i64 t, .int .i64 v] 42))
  have HL := Lib.hid hl
  clear hin hl
  go_enter Try.func25, Try.ntmps25
  go_wp2_with fail
  refine (replaced_at p _ n 1 cp 1 l [(f, t, v)] f t _ HL.out rfl hn (Nat.le_refl _) HI.out HJ.out HP).mono ?_
  rintro e w2 ⟨⟨v2, rfl, ho2⟩, hb2⟩
  have HO2 := Lib.hid (ho2.out.mono HB.out.size)
  have HB2 := Lib.hid (HB.out.trans (hb2.mono HB.out.size))
  clear ho2 hb2
  go_wp2
  go_ret2
  exact ⟨⟨_, rfl, HO2.out⟩, HB2.out⟩

set_option maxHeartbeats 1000000 in
theorem rclear_any (p : Option Addr) (n cp : Nat) (l : List Sp) (f t : Int) (w : World) (hl : l.length = n) (hn : n ≤ maxLen) (hin : SpIn w p l) :
    Calls Try.prog 26 #[.slice p n cp, .int .i64 f, .int .i64 t] w (RetPost (clearS l f t) w) := by
  have HP : Hid (validS l = true → 0 ≤ f → f ≤ t → t ≤ 1114111 → ascB 0 (beforeS f l ++ [] ++ afterS t l) = true) := fun h0 h1 h2 h3 =>
    (put_facts (valid_asc h0) h1 rfl (by simp only [ends]; omega) h2).1
  have HI := Lib.hid hin
  have HL := Lib.hid hl
  clear hin hl
  go_enter Try.func26, Try.ntmps26
  go_wp2_with fail
  refine (replaced_at p none n 0 cp 0 l [] f t _ HL.out rfl hn (by omega) HI.out (fun k hk => by simp at hk) HP).mono ?_
  rintro e w2 ⟨⟨v2, rfl, ho2⟩, hb2⟩
  have HO2 := Lib.hid ho2.out
  have HB2 := Lib.hid hb2
  clear ho2 hb2
  go_wp2
  go_ret2
  exact ⟨⟨_, rfl, HO2.out⟩, HB2.out⟩

end Go.Proofs.Ytkapjihjbflliaa
