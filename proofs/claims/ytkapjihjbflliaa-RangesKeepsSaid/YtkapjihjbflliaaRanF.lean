/-
  ranges: lay, Set, Clear, Overlay.
-/
import Derived.Test.YtkapjihjbflliaaRanC
import Derived.Test.YtkapjihjbflliaaRanE
namespace Go.Proofs.Ytkapjihjbflliaa
open Go.RowKit

set_option maxHeartbeats 1000000 in
theorem lay_any (p q : Option Addr) (n m c d : Nat) (a b : List Sp) (w : World) (hl : a.length = n) (hm : b.length = m) (hd : m ≤ d) (hqd : q = none → d = 0) (hin : SpIn w p a) (hin2 : SpIn w q b) (ha : ascB 0 a = true) (hb : ascB 0 b = true) :
    Calls Try.prog 34 #[.slice p n c, .slice q m d] w (OwnPost (joinS (layS a b)) w) := by
  obtain ⟨U, hU⟩ : ∃ U, uncovS a b = U := ⟨_, rfl⟩
  obtain ⟨V, hV⟩ : ∃ V, layS a b = V := ⟨_, rfl⟩
  have hVU : interS U b = V := by rw [← hV, ← hU]; rfl
  have hUa : U.length ≤ 1114112 := by rw [← hU]; exact asc_length (uncov_facts a b 0 0 ha hb (by omega)).1
  have hVa : ascB 0 V = true := by rw [← hV]; exact (lay_facts ha hb).1
  have hVl : V.length ≤ 1114112 := asc_length hVa
  have hbl : m ≤ 1114112 := by rw [← hm]; exact asc_length hb
  have HU := Lib.hid hU
  have HVU := Lib.hid hVU
  have HUa := Lib.hid hUa
  have HVa := Lib.hid hVa
  have HVl := Lib.hid hVl
  have HI := Lib.hid hin
  have HJ := Lib.hid hin2
  have HL := Lib.hid hl
  have HM := Lib.hid hm
  have HA := Lib.hid ha
  have HB := Lib.hid hb
  have HQ := Lib.hid hqd
  rw [hV]
  clear hU hV hVU hUa hVa hVl hin hin2 hl hm ha hb hqd
  go_enter Try.func34, Try.ntmps34
  go_wp2_with fail
  refine (uncovered_any p q n m c d a b _ HL.out HM.out HI.out HJ.out HA.out HB.out).mono ?_
  rw [HU.out]
  rintro e w1 ⟨v1, rfl, ho1, hb1⟩
  obtain ⟨p1, c1, rfl, hi1⟩ := ho1.inn
  have HI1 := Lib.hid hi1
  have HJ1 := Lib.hid (HJ.out.below hb1)
  have HB1 := Lib.hid hb1
  clear ho1 hi1 hb1
  go_wp2_with fail
  refine (interleave_any p1 q U.length m c1 d U b _ rfl HM.out hd HQ.out HI1.out HJ1.out HUa.out hbl (by rw [HVU.out]; have := HVl.out; omega)).mono ?_
  rw [HVU.out]
  rintro e w2 ⟨v2, rfl, ho2, hb2⟩
  obtain ⟨p2, c2, rfl, hi2⟩ := ho2.inn
  have HI2 := Lib.hid hi2
  have HB2 := Lib.hid (HB1.out.trans (hb2.mono HB1.out.size))
  clear ho2 hi2 hb2 HI1 HJ1 HB1
  go_wp2_with fail
  refine (join_any p2 V.length c2 V _ rfl HI2.out HVa.out).mono ?_
  rintro e w3 ⟨v3, rfl, ho3, hb3⟩
  have HO3 := Lib.hid (ho3.mono HB2.out.size)
  have HB3 := Lib.hid (HB2.out.trans (hb3.mono HB2.out.size))
  clear ho3 hb3 HB2 HI2
  go_wp2
  go_ret
  exact ⟨_, rfl, HO3.out, HB3.out⟩

/-- A new slice of spans, and an error. -/
def RetPost (r : List Sp × Int) (w : World) (e : Ending) (w' : World) : Prop := RetSp w.heap.size r e w' ∧ Below w.heap.size w w'

theorem change_at (p : Option Addr) (n cp : Nat) (l : List Sp) (f t z : Int) (w : World) (hl : Hid (l.length = n)) (hn : n ≤ maxLen) (hin : SpIn w p l) (hz : Hid (chgS l f t = z)) :
    Calls Try.prog 32 #[.slice p n cp, .int .i64 f, .int .i64 t] w fun e w' => e = .returned (.int .i64 z) ∧ Below w.heap.size w w' := by
  have := change_any p n cp l f t w hl.out hn hin
  rw [hz.out] at this
  exact this

theorem limit_at (B : Nat) (p : Option Addr) (n cp : Nat) (l : List Sp) (w : World) (hl : l.length = n) (hn : n ≤ 1114112) (ho : Spans w B (.slice p n cp) l) :
    Calls Try.prog 33 #[.slice p n cp] w fun e w' => (∃ v, e = .returned (.tuple #[v, .int .i64 (limS l).2]) ∧ Hid (Spans w B v (limS l).1)) ∧ w = w' := limit_any B p n cp l w hl hn ho

theorem chg_cases (l : List Sp) (f t : Int) : (chgS l f t = 1 ∧ ∀ y, replS l f t y = ([], 1)) ∨ (chgS l f t = 3 ∧ ∀ y, replS l f t y = ([], 3)) ∨
    (chgS l f t = 0 ∧ validS l = true ∧ 0 ≤ f ∧ f ≤ t ∧ t ≤ 1114111 ∧ ∀ y, replS l f t y = limS (joinS (beforeS f l ++ y ++ afterS t l))) := by
  by_cases hv : validS l = false
  · exact .inl ⟨by rw [chgS, if_pos hv], fun y => by rw [replS, if_pos hv]⟩
  · by_cases hr : f < 0 ∨ t < f ∨ 1114111 < t
    · exact .inr (.inl ⟨by rw [chgS, if_neg hv, if_pos hr], fun y => by rw [replS, if_neg hv, if_pos hr]⟩)
    · exact .inr (.inr ⟨by rw [chgS, if_neg hv, if_neg hr], by simpa using hv, by omega, by omega, by omega, fun y => by rw [replS, if_neg hv, if_neg hr]⟩)

set_option maxHeartbeats 2000000 in
theorem set_any (p : Option Addr) (n cp : Nat) (l : List Sp) (f t v : Int) (w : World) (hl : l.length = n) (hn : n ≤ maxLen) (hin : SpIn w p l) :
    Calls Try.prog 15 #[.slice p n cp, .int .i64 f, .int .i64 t, .int .i64 v] w (RetPost (setS l f t v) w) := by
  have HI := Lib.hid hin
  have HL := Lib.hid hl
  clear hin hl
  rcases chg_cases l f t with ⟨h1, h2⟩ | ⟨h1, h2⟩ | ⟨h1, hv, h3, h4, h5, h6⟩
  · have HZ := Lib.hid h1
    have HF : Hid (setS l f t v = ([], 1)) := h2 _
    clear h1 h2
    go_enter Try.func15, Try.ntmps15
    go_wp2_with fail
    refine (change_at p n cp l f t 1 _ HL hn HI.out HZ).mono ?_
    rintro e w1 ⟨rfl, hb1⟩
    have HB := Lib.hid hb1
    clear hb1
    go_wp2
    go_ret2
    rw [HF.out]
    exact ⟨⟨_, rfl, Spans.nil _ _⟩, HB.out⟩
  · have HZ := Lib.hid h1
    have HF : Hid (setS l f t v = ([], 3)) := h2 _
    clear h1 h2
    go_enter Try.func15, Try.ntmps15
    go_wp2_with fail
    refine (change_at p n cp l f t 3 _ HL hn HI.out HZ).mono ?_
    rintro e w1 ⟨rfl, hb1⟩
    have HB := Lib.hid hb1
    clear hb1
    go_wp2
    go_ret2
    rw [HF.out]
    exact ⟨⟨_, rfl, Spans.nil _ _⟩, HB.out⟩
  · have HZ := Lib.hid h1
    have hA := valid_asc hv
    have hlay := (lay_facts hA (one_asc (v := v) h3 h4 h5)).1
    have hN : (joinS (layS l [(f, t, v)])).length ≤ 1114112 := asc_length (join_asc hlay)
    have HF : Hid (setS l f t v = limS (joinS (layS l [(f, t, v)]))) := by
      unfold Hid setS; rw [h6, set_eq hA h3 h4 h5]
    have HA := Lib.hid hA
    have HN := Lib.hid hN
    have HO1 := Lib.hid (one_asc (v := v) h3 h4 h5)
    clear h1 h6 hv hA hN hlay
    go_enter Try.func15, Try.ntmps15
    go_wp2_with fail
    refine (change_at p n cp l f t 0 _ HL hn HI.out HZ).mono ?_
    rintro e w1 ⟨rfl, hb1⟩
    have HB := Lib.hid hb1
    have HI1 := Lib.hid ((HI.out.below hb1).alloc (.cells #[.int .i64 f, .int .i64 t, .int .i64 v] 42))
    have HJ1 := Lib.hid (one_new w1 f t v 42)
    have HBa := Lib.hid (hb1.alloc hb1.size (.cells #[.int .i64 f, .int .i64 t, .int .i64 v] 42))
    clear hb1
    go_wp2_with fail
    refine (lay_any p _ n 1 cp 1 l [(f, t, v)] _ HL.out rfl (by omega) (by simp) HI1.out HJ1.out HA.out HO1.out).mono ?_
    rintro e w2 ⟨v2, rfl, ho2, hb2⟩
    obtain ⟨p2, c2, rfl, _⟩ := ho2.inn
    have HO2 := Lib.hid (ho2.mono HBa.out.size)
    have HB2 := Lib.hid (HBa.out.trans (hb2.mono HBa.out.size))
    clear ho2 hb2
    go_wp2_with fail
    refine (limit_at _ p2 _ c2 _ _ rfl HN.out HO2.out).mono ?_
    rintro e w3 ⟨⟨v3, rfl, ho3⟩, rfl⟩
    go_wp2
    go_ret2
    rw [HF.out]
    exact ⟨⟨_, rfl, ho3.out⟩, HB2.out⟩

set_option maxHeartbeats 2000000 in
theorem clear_any (p : Option Addr) (n cp : Nat) (l : List Sp) (f t : Int) (w : World) (hl : l.length = n) (hn : n ≤ maxLen) (hin : SpIn w p l) :
    Calls Try.prog 16 #[.slice p n cp, .int .i64 f, .int .i64 t] w (RetPost (clearS l f t) w) := by
  have HI := Lib.hid hin
  have HL := Lib.hid hl
  clear hin hl
  rcases chg_cases l f t with ⟨h1, h2⟩ | ⟨h1, h2⟩ | ⟨h1, hv, h3, h4, h5, h6⟩
  · have HZ := Lib.hid h1
    have HF : Hid (clearS l f t = ([], 1)) := h2 _
    clear h1 h2
    go_enter Try.func16, Try.ntmps16
    go_wp2_with fail
    refine (change_at p n cp l f t 1 _ HL hn HI.out HZ).mono ?_
    rintro e w1 ⟨rfl, hb1⟩
    have HB := Lib.hid hb1
    clear hb1
    go_wp2
    go_ret2
    rw [HF.out]
    exact ⟨⟨_, rfl, Spans.nil _ _⟩, HB.out⟩
  · have HZ := Lib.hid h1
    have HF : Hid (clearS l f t = ([], 3)) := h2 _
    clear h1 h2
    go_enter Try.func16, Try.ntmps16
    go_wp2_with fail
    refine (change_at p n cp l f t 3 _ HL hn HI.out HZ).mono ?_
    rintro e w1 ⟨rfl, hb1⟩
    have HB := Lib.hid hb1
    clear hb1
    go_wp2
    go_ret2
    rw [HF.out]
    exact ⟨⟨_, rfl, Spans.nil _ _⟩, HB.out⟩
  · have HZ := Lib.hid h1
    have hA := valid_asc hv
    have hunc := (uncov_facts l [(f, t, 0)] 0 0 hA (one_asc (v := 0) h3 h4 h5) (by omega)).1
    have hN : (joinS (uncovS l [(f, t, 0)])).length ≤ 1114112 := asc_length (join_asc hunc)
    have HF : Hid (clearS l f t = limS (joinS (uncovS l [(f, t, 0)]))) := by
      unfold Hid clearS; rw [h6, clear_eq hA h3 h4 h5]
    have HA := Lib.hid hA
    have HN := Lib.hid hN
    have HUN := Lib.hid hunc
    have HO1 := Lib.hid (one_asc (v := 0) h3 h4 h5)
    clear h1 h6 hv hA hN hunc
    go_enter Try.func16, Try.ntmps16
    go_wp2_with fail
    refine (change_at p n cp l f t 0 _ HL hn HI.out HZ).mono ?_
    rintro e w1 ⟨rfl, hb1⟩
    have HB := Lib.hid hb1
    have HI1 := Lib.hid ((HI.out.below hb1).alloc (.cells #[.int .i64 f, .int .i64 t, .int .i64 0] 42))
    have HJ1 := Lib.hid (one_new w1 f t 0 42)
    have HBa := Lib.hid (hb1.alloc hb1.size (.cells #[.int .i64 f, .int .i64 t, .int .i64 0] 42))
    clear hb1
    go_wp2_with fail
    refine (uncovered_any p _ n 1 cp 1 l [(f, t, 0)] _ HL.out rfl HI1.out HJ1.out HA.out HO1.out).mono ?_
    rintro e w2 ⟨v2, rfl, ho2, hb2⟩
    obtain ⟨p2, c2, rfl, hi2⟩ := ho2.inn
    have HI2 := Lib.hid hi2
    have HB2 := Lib.hid (HBa.out.trans (hb2.mono HBa.out.size))
    clear ho2 hb2 hi2
    go_wp2_with fail
    refine (join_any p2 _ c2 _ _ rfl HI2.out HUN.out).mono ?_
    rintro e w3 ⟨v3, rfl, ho3, hb3⟩
    obtain ⟨p3, c3, rfl, _⟩ := ho3.inn
    have HO3 := Lib.hid (ho3.mono HB2.out.size)
    have HB3 := Lib.hid (HB2.out.trans (hb3.mono HB2.out.size))
    clear ho3 hb3
    go_wp2_with fail
    refine (limit_at _ p3 _ c3 _ _ rfl HN.out HO3.out).mono ?_
    rintro e w4 ⟨⟨v4, rfl, ho4⟩, rfl⟩
    go_wp2
    go_ret2
    rw [HF.out]
    exact ⟨⟨_, rfl, ho4.out⟩, HB3.out⟩

theorem over_inv {a b : List Sp} (h : ¬ (validS a = true ∧ validS b = true)) : overS a b = ([], 1) := by rw [overS, if_neg h]
theorem over_ok {a b : List Sp} (ha : validS a = true) (hb : validS b = true) : overS a b = limS (joinS (layS a b)) := by
  rw [overS, if_pos ⟨ha, hb⟩, over_eq (valid_asc ha) (valid_asc hb)]

set_option maxHeartbeats 2000000 in
theorem overlay_any (p q : Option Addr) (n m c d : Nat) (a b : List Sp) (w : World) (hl : a.length = n) (hm : b.length = m) (hn : n ≤ maxLen) (hmm : m ≤ maxLen) (hd : m ≤ d) (hqd : q = none → d = 0) (hin : SpIn w p a) (hin2 : SpIn w q b) :
    Calls Try.prog 19 #[.slice p n c, .slice q m d] w (RetPost (overS a b) w) := by
  have HI := Lib.hid hin
  have HJ := Lib.hid hin2
  have HL := Lib.hid hl
  have HM := Lib.hid hm
  have HQ := Lib.hid hqd
  clear hin hin2 hl hm hqd
  cases hva : validS a with
  | false =>
    have HF : Hid (overS a b = ([], 1)) := over_inv (by simp [hva])
    have HV := Lib.hid hva
    clear hva
    go_enter Try.func19, Try.ntmps19
    go_wp2_with fail
    refine (isValid_at p n c a false _ HL hn HI.out HV).mono ?_
    rintro e w1 ⟨rfl, hb1⟩
    have HB := Lib.hid hb1
    clear hb1
    go_wp2
    go_ret2
    rw [HF.out]
    exact ⟨⟨_, rfl, Spans.nil _ _⟩, HB.out⟩
  | true =>
    cases hvb : validS b with
    | false =>
      have HF : Hid (overS a b = ([], 1)) := over_inv (by simp [hvb])
      have HV := Lib.hid hva
      have HW := Lib.hid hvb
      clear hva hvb
      go_enter Try.func19, Try.ntmps19
      go_wp2_with fail
      refine (isValid_at p n c a true _ HL hn HI.out HV).mono ?_
      rintro e w1 ⟨rfl, hb1⟩
      have HB := Lib.hid hb1
      have HJ1 := Lib.hid (HJ.out.below hb1)
      clear hb1
      go_wp2_with fail
      refine (isValid_at q m d b false _ HM hmm HJ1.out HW).mono ?_
      rintro e w2 ⟨rfl, hb2⟩
      have HB2 := Lib.hid (HB.out.trans (hb2.mono HB.out.size))
      clear hb2
      go_wp2
      go_ret2
      rw [HF.out]
      exact ⟨⟨_, rfl, Spans.nil _ _⟩, HB2.out⟩
    | true =>
      have HF : Hid (overS a b = limS (joinS (layS a b))) := over_ok hva hvb
      have HA := Lib.hid (valid_asc hva)
      have HB0 := Lib.hid (valid_asc hvb)
      have HN := Lib.hid (asc_length (join_asc (lay_facts (valid_asc hva) (valid_asc hvb)).1))
      have HV := Lib.hid hva
      have HW := Lib.hid hvb
      clear hva hvb
      go_enter Try.func19, Try.ntmps19
      go_wp2_with fail
      refine (isValid_at p n c a true _ HL hn HI.out HV).mono ?_
      rintro e w1 ⟨rfl, hb1⟩
      have HB := Lib.hid hb1
      have HJ1 := Lib.hid (HJ.out.below hb1)
      clear hb1
      go_wp2_with fail
      refine (isValid_at q m d b true _ HM hmm HJ1.out HW).mono ?_
      rintro e w2 ⟨rfl, hb2⟩
      have HB2 := Lib.hid (HB.out.trans (hb2.mono HB.out.size))
      clear hb2 HB HJ1
      go_wp2_with fail
      refine (lay_any p q n m c d a b _ HL.out HM.out hd HQ.out (HI.out.below HB2.out) (HJ.out.below HB2.out) HA.out HB0.out).mono ?_
      rintro e w3 ⟨v3, rfl, ho3, hb3⟩
      obtain ⟨p3, c3, rfl, _⟩ := ho3.inn
      have HO3 := Lib.hid (ho3.mono HB2.out.size)
      have HB3 := Lib.hid (HB2.out.trans (hb3.mono HB2.out.size))
      clear ho3 hb3
      go_wp2_with fail
      refine (limit_at _ p3 _ c3 _ _ rfl HN.out HO3.out).mono ?_
      rintro e w4 ⟨⟨v4, rfl, ho4⟩, rfl⟩
      go_wp2
      go_ret2
      rw [HF.out]
      exact ⟨⟨_, rfl, ho4.out⟩, HB3.out⟩

end Go.Proofs.Ytkapjihjbflliaa
