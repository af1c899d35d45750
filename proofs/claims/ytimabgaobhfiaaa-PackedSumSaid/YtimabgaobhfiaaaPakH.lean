/-
  packed: GetSpans.
-/
import Derived.Test.YtimabgaobhfiaaaPakG
namespace Go.Proofs.Ytimabgaobhfiaaa
open Go.RowKit

/-- What a number may be. -/
theorem numS_bd {s : ByteArray} {i er least most v j er' : Int} (h : numS s i er least most = (v, j, er')) : (er' = 0 → er = 0 ∧ least ≤ v ∧ v ≤ most) ∧ (er' ≠ 0 → v = 0) := by
  rw [numS] at h
  by_cases h0 : er ≠ 0
  · rw [if_pos h0] at h
    injection h with e1 e2
    injection e2 with e2 e3
    exact ⟨fun h => absurd (e3.trans h) h0, fun _ => e1.symm⟩
  · rw [if_neg h0] at h
    by_cases h1 : (getS s i).2.2 ≠ 0
    · rw [if_pos h1] at h
      injection h with e1 e2
      injection e2 with e2 e3
      exact ⟨fun h => absurd (e3.trans h) h1, fun _ => e1.symm⟩
    · rw [if_neg h1] at h
      by_cases h2 : (getS s i).1 < least ∨ most < (getS s i).1
      · rw [if_pos h2] at h
        injection h with e1 e2
        injection e2 with e2 e3
        exact ⟨fun h => by omega, fun _ => e1.symm⟩
      · rw [if_neg h2] at h
        injection h with e1 e2
        injection e2 with e2 e3
        exact ⟨fun _ => ⟨by omega, by omega, by omega⟩, fun h => absurd e3.symm h⟩

/-- A reader with an error answers nothing more. -/
theorem numS_stay {s : ByteArray} {i er least most v j er' : Int} (h0 : er ≠ 0) (h : numS s i er least most = (v, j, er')) : v = 0 ∧ j = i ∧ er' = er := by
  rw [numS, if_pos h0] at h
  injection h with e1 e2
  injection e2 with e2 e3
  exact ⟨e1.symm, e2.symm, e3.symm⟩

/-- The first number of a list of spans. -/
theorem spans_head {s : ByteArray} {a v i er : Int} (h : numS s a 0 0 256 = (v, i, er)) :
    (er ≠ 0 → v = 0 ∧ getSpansS s a = ([], a, er)) ∧ (er = 0 → 0 ≤ v ∧ v ≤ 256 ∧ getSpansS s a = getSF s a v.toNat true i 0 []) := by
  rw [numS, if_neg (by simp)] at h
  rw [getSpansS]
  by_cases h1 : (getS s a).2.2 ≠ 0
  · rw [if_pos h1] at h ⊢
    injection h with e1 e2
    injection e2 with e2 e3
    exact ⟨fun _ => ⟨e1.symm, by rw [e3]⟩, fun h0 => absurd (e3.trans h0) h1⟩
  · rw [if_neg h1] at h ⊢
    by_cases h2 : (getS s a).1 < 0 ∨ 256 < (getS s a).1
    · rw [if_pos h2] at h ⊢
      injection h with e1 e2
      injection e2 with e2 e3
      exact ⟨fun _ => ⟨e1.symm, by rw [← e3]⟩, fun h0 => by omega⟩
    · rw [if_neg h2] at h ⊢
      injection h with e1 e2
      injection e2 with e2 e3
      exact ⟨fun h0 => absurd e3.symm h0, fun _ => ⟨by omega, by omega, by rw [e1, e2]⟩⟩

def gapS (first : Bool) : Int := if first = true then 0 else 1

/-- One more span. -/
theorem span_step {s : ByteArray} {a i last x j1 e1 y j2 e2 z j3 e3 : Int} {m : Nat} {first : Bool} {out : List Sp} (hx : numS s i 0 (gapS first) (1114111 - last) = (x, j1, e1))
    (hy : numS s j1 e1 0 (1114111 - (last + x)) = (y, j2, e2)) (hz : numS s j2 e2 (-1073741824) 1073741824 = (z, j3, e3)) :
    (e3 ≠ 0 → getSF s a (m + 1) first i last out = ([], a, e3)) ∧ (e3 = 0 → getSF s a (m + 1) first i last out = getSF s a m false j3 (last + x + y) (out ++ [(last + x, last + x + y, z)])) := by
  rw [getSF]
  simp only
  rw [numS, if_neg (by simp)] at hx
  by_cases h1 : (getS s i).2.2 ≠ 0
  · rw [if_pos h1] at hx ⊢
    injection hx with f1 f2
    injection f2 with f2 f3
    have g1 := numS_stay (by rw [← f3]; exact h1) hy
    have g2 := numS_stay (by rw [g1.2.2, ← f3]; exact h1) hz
    have : e3 = (getS s i).2.2 := by rw [g2.2.2, g1.2.2, f3]
    exact ⟨fun _ => by rw [this], fun h => absurd (this.symm.trans h) h1⟩
  · rw [if_neg h1] at hx ⊢
    by_cases h2 : (getS s i).1 < gapS first ∨ 1114111 - last < (getS s i).1
    · have h2' : (getS s i).1 < 0 ∨ 1114111 - last < (getS s i).1 ∨ (first = false ∧ (getS s i).1 = 0) := by
        unfold gapS at h2
        cases first
        · simp at h2; rcases h2 with h2 | h2
          · by_cases h0 : (getS s i).1 = 0
            · exact .inr (.inr ⟨rfl, h0⟩)
            · exact .inl (by omega)
          · exact .inr (.inl h2)
        · simp at h2; rcases h2 with h2 | h2
          · exact .inl h2
          · exact .inr (.inl h2)
      rw [if_pos h2] at hx
      rw [if_pos h2']
      injection hx with f1 f2
      injection f2 with f2 f3
      have g1 := numS_stay (by omega) hy
      have g2 := numS_stay (by omega) hz
      have : e3 = 4 := by omega
      exact ⟨fun _ => by rw [this], fun h => by omega⟩
    · have h2' : ¬ ((getS s i).1 < 0 ∨ 1114111 - last < (getS s i).1 ∨ (first = false ∧ (getS s i).1 = 0)) := by
        unfold gapS at h2
        cases first
        · simp at h2; rintro (h | h | ⟨_, h⟩) <;> omega
        · simp at h2; rintro (h | h | ⟨h, _⟩)
          · omega
          · omega
          · cases h
      rw [if_neg h2] at hx
      rw [if_neg h2']
      injection hx with f1 f2
      injection f2 with f2 f3
      rw [f1, f2]
      subst f3
      rw [numS, if_neg (by simp)] at hy
      by_cases h3 : (getS s j1).2.2 ≠ 0
      · rw [if_pos h3] at hy ⊢
        injection hy with f1 f2
        injection f2 with f2 f3
        have g2 := numS_stay (by rw [← f3]; exact h3) hz
        have : e3 = (getS s j1).2.2 := by rw [g2.2.2, f3]
        exact ⟨fun _ => by rw [this], fun h => absurd (this.symm.trans h) h3⟩
      · rw [if_neg h3] at hy ⊢
        by_cases h4 : (getS s j1).1 < 0 ∨ 1114111 - (last + x) < (getS s j1).1
        · rw [if_pos h4] at hy ⊢
          injection hy with f1 f2
          injection f2 with f2 f3
          have g2 := numS_stay (by omega) hz
          have : e3 = 4 := by omega
          exact ⟨fun _ => by rw [this], fun h => by omega⟩
        · rw [if_neg h4] at hy ⊢
          injection hy with f1 f2
          injection f2 with f2 f3
          rw [f1, f2]
          subst f3
          rw [numS, if_neg (by simp)] at hz
          by_cases h5 : (getS s j2).2.2 ≠ 0
          · rw [if_pos h5] at hz ⊢
            injection hz with f1 f2
            injection f2 with f2 f3
            exact ⟨fun _ => by rw [f3], fun h => absurd (f3.trans h) h5⟩
          · rw [if_neg h5] at hz ⊢
            by_cases h6 : (getS s j2).1 < -1073741824 ∨ 1073741824 < (getS s j2).1
            · have hm : modB (getS s j2).1 = false := by rw [← Bool.not_eq_true, modB_iff]; omega
              rw [if_pos h6] at hz
              rw [if_pos hm]
              injection hz with f1 f2
              injection f2 with f2 f3
              exact ⟨fun _ => by rw [← f3], fun h => by omega⟩
            · have hm : modB (getS s j2).1 = true := by rw [modB_iff]; omega
              rw [if_neg h6] at hz
              rw [if_neg (by rw [hm]; simp)]
              injection hz with f1 f2
              injection f2 with f2 f3
              exact ⟨fun h => absurd f3.symm h, fun _ => by rw [f1, f2]⟩

/-- A new slice of spans, an index and an error, named. -/
def RetS (L : List Sp) (i er : Int) (w : World) (e : Ending) (w' : World) : Prop :=
  ∃ p c, e = .returned (.tuple #[.slice p L.length c, .int .i64 i, .int .i64 er]) ∧ Hid (SpIn w' p L) ∧ Below w.heap.size w w'

theorem RetS.of {v : Value} {L : List Sp} {i er : Int} {w w' : World} {B : Nat} (h : Spans w' B v L) (hb : Below w.heap.size w w') : RetS L i er w (.returned (.tuple #[v, .int .i64 i, .int .i64 er])) w' := by
  obtain ⟨p, c, rfl, hi⟩ := h.inn
  exact ⟨p, c, rfl, hi, hb⟩

theorem Spans.kept {w w' : World} {B : Nat} {v : Value} {l : List Sp} {row : Option Nat} (h : Spans w B v l) (hg : w.grownBy w' row) (hr : ∀ k, row = some k → k < B) : Spans w' B v l := by
  refine World.ownsRow.kept h hg ?_
  cases e : v.ownBlock with
  | none => exact .inl rfl
  | some k =>
    refine .inr fun h2 => ?_
    have h3 := h.base k e
    have h4 := hr k h2.symm
    omega

set_option maxRecDepth 100000 in
set_option maxHeartbeats 4000000 in
theorem getSpans_any (s : ByteArray) (a : Int) (L : List Sp) (i er : Int) (w : World) (hs : s.size ≤ maxLen) (hE : Hid (getSpansS s a = (L, i, er))) :
    Calls Try.prog 26 #[.string s, .int .i64 a] w (RetS L i er w) := by
  have HS := Lib.hid hs
  clear hs
  obtain ⟨v, j, e1, hn⟩ : ∃ v j e1, numS s a 0 0 256 = (v, j, e1) := ⟨_, _, _, rfl⟩
  obtain ⟨hh1, hh2⟩ := spans_head hn
  have HN := Lib.hid hn
  have HR0 := Lib.hid (Rd.new w s a 0 62)
  have HB0 := Lib.hid ((Below.refl w.heap.size w).alloc (Nat.le_refl _) (.cells #[.string s, .int .i64 a, .int .i64 0] 62))
  clear hn
  obtain ⟨n, hv⟩ : ∃ n : Nat, v = n := ⟨v.toNat, by
    by_cases h : e1 = 0
    · have := hh2 h; omega
    · have := hh1 h; omega⟩
  subst hv
  have hn2 : n ≤ 256 := by
    by_cases h : e1 = 0
    · have := hh2 h; omega
    · have := hh1 h; omega
  have hmk := run_make_spans n (by omega)
  have HH1 := Lib.hid hh1
  have HH2 := Lib.hid hh2
  clear hh1 hh2
  go_enter Try.func26, Try.ntmps26
  go_wp2_with fail
  refine (number_any w.heap.size s a 0 0 256 n j e1 _ HS.out HR0.out HN).mono ?_
  rintro e w1 ⟨rfl, hr1, hg1⟩
  have HR1 := Lib.hid (hr1.grown (World.grownBy_alloc w1 (madeSp n) none) (by simp))
  have HB1 := Lib.hid ((HB0.out.grown hg1 HB0.out.size (by rintro k ⟨⟩; exact Nat.le_refl _)).alloc ((HB0.out.grown hg1 HB0.out.size (by rintro k ⟨⟩; exact Nat.le_refl _)).size) (madeSp n))
  have HO1 := Lib.hid (Spans.made w1 (w.heap.size + 1) n hr1.2.2.2.2.2 (by omega))
  have HE0 : Hid (e1 = 0 → getSF s a (n - 0) true j 0 [] = (L, i, er)) := by
    intro h
    have := (HH2.out h).2.2
    rw [← hE.out, this]; rfl
  have HX : Hid (e1 ≠ 0 → n = 0 ∧ (([] : List Sp), a, e1) = (L, i, er)) := by
    intro h
    have := HH1.out h
    exact ⟨by omega, by rw [← hE.out, this.2]⟩
  clear hr1 hg1 HH1 HH2
  go_wp2
  go_loopw [9, 10, 11, 22] (fun vv lv gv iv wr => ∃ (k : Nat) (last j gap : Int) (first : Bool) (out : List Sp), k ≤ n ∧ iv = .int .i64 k ∧ lv = .int .i64 last ∧ gv = .int .i64 gap ∧ Hid (gapS first = gap) ∧ 0 ≤ last ∧ last ≤ 1114111 ∧ 0 ≤ gap ∧ out.length ≤ k ∧ Hid (e1 = 0 → getSF s a (n - k) first j last out = (L, i, er)) ∧ Hid (Rd wr w.heap.size s j e1) ∧ Hid (Spans wr (w.heap.size + 1) vv out) ∧ Hid (Below w.heap.size w wr)) (fun _ _ _ iv _ => n - (intOf iv).toNat)
  case atStart => exact ⟨0, 0, j, 0, true, [], Nat.zero_le _, rfl, rfl, rfl, rfl, by omega, by omega, by omega, Nat.zero_le _, HE0, HR1, HO1, HB1⟩
  case round =>
    clear HE0 HR1 HO1 HB1 hmk
    obtain ⟨k, last, j, gap, first, out, hk, rfl, rfl, rfl, hgap, hl0, hl1, hg0, hol, hEq, hr, ho, hbel⟩ := hrel
    by_cases hlt : k < n
    · have h0 : e1 = 0 := by
        by_cases h : e1 = 0
        · exact h
        · have := (HX.out h).1; omega
      subst h0
      obtain ⟨m, hm⟩ : ∃ m, n - k = m + 1 := ⟨n - k - 1, by omega⟩
      obtain ⟨x, j1, d1, hx⟩ : ∃ x j1 d1, numS s j 0 gap (1114111 - last) = (x, j1, d1) := ⟨_, _, _, rfl⟩
      obtain ⟨y, j2, d2, hy⟩ : ∃ y j2 d2, numS s j1 d1 0 (1114111 - (last + x)) = (y, j2, d2) := ⟨_, _, _, rfl⟩
      obtain ⟨z, j3, d3, hz⟩ : ∃ z j3 d3, numS s j2 d2 (-1073741824) 1073741824 = (z, j3, d3) := ⟨_, _, _, rfl⟩
      obtain ⟨st1, st2⟩ := span_step (a := a) (m := m) (first := first) (out := out) (by rw [hgap.out]; exact hx) hy hz
      have hEq2 := hEq.out rfl
      rw [hm] at hEq2
      have hbx := numS_bd hx
      have hby := numS_bd hy
      have hbz := numS_bd hz
      have hx0 : 0 ≤ x ∧ last + x ≤ 1114111 := by
        by_cases h : d1 = 0
        · have := hbx.1 h; omega
        · have := hbx.2 h; omega
      have hy0 : 0 ≤ y ∧ last + x + y ≤ 1114111 := by
        by_cases h : d2 = 0
        · have := hby.1 h; omega
        · have := hby.2 h; omega
      obtain ⟨hx0, hx1⟩ := hx0
      obtain ⟨hy0, hy1⟩ := hy0
      have HNX := Lib.hid hx
      have HNY := Lib.hid hy
      have HNZ := Lib.hid hz
      have HM := Lib.hid hm
      have HBZ := Lib.hid hbz
      clear hx hy hz hm hEq hbx hby hbz
      by_cases he : d3 = 0
      · have st := st2 he
        rw [st] at hEq2
        subst he
        have HQ : Hid (getSF s a (n - (k + 1)) false j3 (last + x + y) (out ++ [(last + x, last + x + y, z)]) = (L, i, er)) := by
          have := HM.out
          unfold Hid; rw [show n - (k + 1) = m by omega]; exact hEq2
        clear st st1 st2 hEq2
        go_wp2_with fail
        refine (number_any w.heap.size s j 0 _ _ x j1 d1 _ HS.out hr.out HNX).mono ?_
        rintro e w2 ⟨rfl, hr2, hg2⟩
        have HR2 := Lib.hid hr2
        have HO2 := Lib.hid (ho.out.kept hg2 (by rintro k ⟨⟩; omega))
        have HB2 := Lib.hid (hbel.out.grown hg2 hbel.out.size (by rintro k ⟨⟩; exact Nat.le_refl _))
        clear hr2 hg2
        go_wp2_with fail
        refine (number_any w.heap.size s j1 d1 _ _ y j2 d2 _ HS.out HR2.out HNY).mono ?_
        rintro e w3 ⟨rfl, hr3, hg3⟩
        have HR3 := Lib.hid hr3
        have HO3 := Lib.hid (HO2.out.kept hg3 (by rintro k ⟨⟩; omega))
        have HB3 := Lib.hid (HB2.out.grown hg3 HB2.out.size (by rintro k ⟨⟩; exact Nat.le_refl _))
        clear hr3 hg3 HR2 HO2 HB2
        go_wp2_with fail
        refine (number_any w.heap.size s j2 d2 _ _ z j3 0 _ HS.out HR3.out HNZ).mono ?_
        rintro e w4 ⟨rfl, hr4, hg4⟩
        have HR4 := Lib.hid hr4
        have HO4 := Lib.hid (HO3.out.kept hg4 (by rintro k ⟨⟩; omega))
        have HB4 := Lib.hid (HB3.out.grown hg4 HB3.out.size (by rintro k ⟨⟩; exact Nat.le_refl _))
        have HF4 := Lib.hid (Nat.succ_le_of_lt hr4.2.2.2.2.2)
        clear hr4 hg4 HR3 HO3 HB3
        obtain ⟨c0, c1, c2, f1, f2, f3⟩ := HR4.out
        go_wp2_with (at_builtin; refine wpList_append_span (.tmp 39) (.tmp 44) rfl rfl (w.heap.size + 1) _ out rfl HO4.out (last + x, last + x + y, z) 1 _ rfl rfl (by omega) HF4.out ?_; intro v5 w5 ho5 hg5)
        have HO5 := Lib.hid ho5
        have HR5 := Lib.hid (HR4.out.grown hg5 (fun e => by have := HO4.out.base _ e; omega))
        have HB5 := Lib.hid (HB4.out.grown hg5 HB4.out.size (fun k hk => by have := HO4.out.base k hk; omega))
        clear ho5 hg5 c0 c1 c2 f1 f2 f3
        go_wp2
        go_roundw
        case rel => exact ⟨k + 1, last + x + y, j3, 1, false, out ++ [(last + x, last + x + y, z)], by omega, by go_num, rfl, rfl, rfl, by omega, by omega, by omega, by simp; omega, fun _ => HQ.out, HR5, HO5, HB5⟩
        case measure => simp [intOf]; omega
      · have st := st1 he
        rw [st] at hEq2
        injection hEq2 with x1 x2
        injection x2 with x2 x3
        subst x1; subst x2; subst x3
        have hd : (d3 != 0) = true := by simp [he]
        clear st st1 st2 he
        go_wp2_with fail
        refine (number_any w.heap.size s j 0 _ _ x j1 d1 _ HS.out hr.out HNX).mono ?_
        rintro e w2 ⟨rfl, hr2, hg2⟩
        have HR2 := Lib.hid hr2
        have HB2 := Lib.hid (hbel.out.grown hg2 hbel.out.size (by rintro k ⟨⟩; exact Nat.le_refl _))
        clear hr2 hg2
        go_wp2_with fail
        refine (number_any w.heap.size s j1 d1 _ _ y j2 d2 _ HS.out HR2.out HNY).mono ?_
        rintro e w3 ⟨rfl, hr3, hg3⟩
        have HR3 := Lib.hid hr3
        have HB3 := Lib.hid (HB2.out.grown hg3 HB2.out.size (by rintro k ⟨⟩; exact Nat.le_refl _))
        clear hr3 hg3 HR2 HB2
        go_wp2_with fail
        refine (number_any w.heap.size s j2 d2 _ _ z j3 d3 _ HS.out HR3.out HNZ).mono ?_
        rintro e w4 ⟨rfl, hr4, hg4⟩
        have HR4 := Lib.hid hr4
        have HB4 := Lib.hid (HB3.out.grown hg4 HB3.out.size (by rintro k ⟨⟩; exact Nat.le_refl _))
        clear hr4 hg4 HR3 HB3
        obtain ⟨c0, c1, c2, f1, f2, f3⟩ := HR4.out
        go_wp2
        go_quiet (fail)
        go_wp2
        go_ret3
        exact RetS.of (Spans.nil _ 0) (pk_below_drewN HB4.out _)
    · obtain rfl : k = n := by omega
      obtain ⟨c0, c1, c2, f1, f2, f3⟩ := hr.out
      by_cases h0 : e1 = 0
      · have hEq2 := hEq.out h0
        rw [Nat.sub_self, getSF] at hEq2
        injection hEq2 with x1 x2
        injection x2 with x2 x3
        subst x1; subst x2; subst x3
        subst h0
        have hd : ((0 : Int) != 0) = false := rfl
        clear hEq
        go_wp2
        go_quiet (fail)
        go_wp2
        go_ret3
        exact RetS.of (B := w.heap.size + 1) ho.out (pk_below_drewN hbel.out _)
      · have hEq2 := (HX.out h0).2
        injection hEq2 with x1 x2
        injection x2 with x2 x3
        subst x1; subst x2; subst x3
        have hd : (e1 != 0) = true := by simp [h0]
        clear hEq h0
        go_wp2
        go_quiet (fail)
        go_wp2
        go_ret3
        exact RetS.of (Spans.nil _ 0) (pk_below_drewN hbel.out _)

end Go.Proofs.Ytimabgaobhfiaaa
