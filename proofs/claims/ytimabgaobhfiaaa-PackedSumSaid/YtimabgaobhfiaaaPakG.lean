/-
  packed: GetList.
-/
import Derived.Test.YtimabgaobhfiaaaPakF
import Derived.Test.YtimabgaobhfiaaaAppend
namespace Go.Proofs.Ytimabgaobhfiaaa
open Go.RowKit

/-- The block that make lays for c ints. -/
def madeInts (c : Nat) : Obj := .cells (madeCells (Value.cells (.int .i64 0)) (c * 1)) 3

theorem run_make_ints (c : Nat) (hc : c ≤ 4194304) (w : World) :
    (Instr.makeSlice 27 (.int .i64 0) (.int .i64 (c : Int))).run Try.prog w = .ok (.slice (some ⟨w.heap.size, 0, none⟩) 0 c) (w.alloc (madeInts c)) := by
  obtain ⟨i0, hi, hz0, hz1, hz2⟩ := info_parts Try.info3
  have h := run_make_rowN (P := Try.prog) 27 3 i0 _ Try.underlying27 hi hz0 .i64 .i64 0 c (Nat.zero_le _) (by rw [hz2]; omega) (by omega) w
  rw [hz1] at h
  exact h

theorem Ints.made (w : World) (B c : Nat) (hB : B ≤ w.heap.size) (hc : c ≤ 4194304) : Ints (w.alloc (madeInts c)) B (.slice (some ⟨w.heap.size, 0, none⟩) 0 c) [] := by
  unfold Ints madeInts
  exact World.ownsRow_made w _ c hB (by unfold maxLen; omega) (size_madeCells _ _)

theorem Ints.alloc {w : World} {B : Nat} {v : Value} {l : List Int} (h : Ints w B v l) (o : Obj) : Ints (w.alloc o) B v l := World.ownsRow.alloc h o
theorem Ints.base {w : World} {B : Nat} {v : Value} {l : List Int} (h : Ints w B v l) : ∀ k, v.ownBlock = some k → B ≤ k := fun k hk => (World.ownsRow.lt h k hk).1
theorem Ints.kept {w w' : World} {B : Nat} {v : Value} {l : List Int} {row : Option Nat} (h : Ints w B v l) (hg : w.grownBy w' row) (hr : ∀ k, row = some k → k < B) : Ints w' B v l := by
  refine World.ownsRow.kept h hg ?_
  cases e : v.ownBlock with
  | none => exact .inl rfl
  | some k =>
    refine .inr fun h2 => ?_
    have h3 := h.base k e
    have h4 := hr k h2.symm
    omega

/-- The first number of a list: how many there are. -/
theorem list_head {s : ByteArray} {a v i er : Int} (h : numS s a 0 0 4096 = (v, i, er)) :
    (er ≠ 0 → v = 0 ∧ getListS s a = ([], a, er)) ∧ (er = 0 → 0 ≤ v ∧ v ≤ 4096 ∧ getListS s a = getLF s a v.toNat i 0 []) := by
  rw [numS, if_neg (by simp)] at h
  rw [getListS]
  by_cases h1 : (getS s a).2.2 ≠ 0
  · rw [if_pos h1] at h ⊢
    injection h with e1 e2
    injection e2 with e2 e3
    exact ⟨fun _ => ⟨e1.symm, by rw [e3]⟩, fun h0 => absurd (e3.trans h0) h1⟩
  · rw [if_neg h1] at h ⊢
    by_cases h2 : (getS s a).1 < 0 ∨ 4096 < (getS s a).1
    · rw [if_pos h2] at h ⊢
      injection h with e1 e2
      injection e2 with e2 e3
      exact ⟨fun _ => ⟨e1.symm, by rw [← e3]⟩, fun h0 => by omega⟩
    · rw [if_neg h2] at h ⊢
      injection h with e1 e2
      injection e2 with e2 e3
      exact ⟨fun h0 => absurd e3.symm h0, fun _ => ⟨by omega, by omega, by rw [e1, e2]⟩⟩

/-- One more element. -/
theorem list_step {s : ByteArray} {a i last v j er : Int} {m : Nat} {out : List Int} (hl : -1073741824 ≤ last ∧ last ≤ 1073741824) (h : numS s i 0 (-1073741824 - last) (1073741824 - last) = (v, j, er)) :
    (er ≠ 0 → v = 0 ∧ getLF s a (m + 1) i last out = ([], a, er)) ∧ (er = 0 → -1073741824 ≤ last + v ∧ last + v ≤ 1073741824 ∧ getLF s a (m + 1) i last out = getLF s a m j (last + v) (out ++ [last + v])) := by
  rw [numS, if_neg (by simp)] at h
  rw [getLF]
  by_cases h1 : (getS s i).2.2 ≠ 0
  · rw [if_pos h1] at h ⊢
    injection h with e1 e2
    injection e2 with e2 e3
    exact ⟨fun _ => ⟨e1.symm, by rw [e3]⟩, fun h0 => absurd (e3.trans h0) h1⟩
  · rw [if_neg h1] at h ⊢
    by_cases h2 : (getS s i).1 < -1073741824 - last ∨ 1073741824 - last < (getS s i).1
    · have hm : modB (last + (getS s i).1) = false := by
        rw [← Bool.not_eq_true, modB_iff]; omega
      rw [if_pos h2] at h
      rw [if_pos (.inr (.inr hm))]
      injection h with e1 e2
      injection e2 with e2 e3
      exact ⟨fun _ => ⟨e1.symm, by rw [← e3]⟩, fun h0 => by omega⟩
    · have hm : modB (last + (getS s i).1) = true := by rw [modB_iff]; omega
      rw [if_neg h2] at h
      rw [if_neg (by rw [hm]; simp; omega)]
      injection h with e1 e2
      injection e2 with e2 e3
      exact ⟨fun h0 => absurd e3.symm h0, fun _ => ⟨by omega, by omega, by rw [e1, e2]⟩⟩

/-- A new slice of ints, an index and an error, named. -/
def RetL (L : List Int) (i er : Int) (w : World) (e : Ending) (w' : World) : Prop :=
  ∃ p c, e = .returned (.tuple #[.slice p L.length c, .int .i64 i, .int .i64 er]) ∧ Hid (IntsIn w' p L) ∧ Below w.heap.size w w'

theorem RetL.of {v : Value} {L : List Int} {i er : Int} {w w' : World} {B : Nat} (h : Ints w' B v L) (hb : Below w.heap.size w w') : RetL L i er w (.returned (.tuple #[v, .int .i64 i, .int .i64 er])) w' := by
  obtain ⟨p, c, rfl, hi⟩ := h.inn
  exact ⟨p, c, rfl, hi, hb⟩

theorem pk_below_drewN {B : Nat} {a w : World} (h : Below B a w) (n : Nat) : Below B a (w.drewN n) := ⟨h.os, h.tape, h.output, h.size, h.block⟩

set_option maxRecDepth 100000 in
set_option maxHeartbeats 4000000 in
theorem getList_any (s : ByteArray) (a : Int) (L : List Int) (i er : Int) (w : World) (hs : s.size ≤ maxLen) (hE : Hid (getListS s a = (L, i, er))) :
    Calls Try.prog 23 #[.string s, .int .i64 a] w (RetL L i er w) := by
  have HS := Lib.hid hs
  clear hs
  obtain ⟨v, j, e1, hn⟩ : ∃ v j e1, numS s a 0 0 4096 = (v, j, e1) := ⟨_, _, _, rfl⟩
  obtain ⟨hh1, hh2⟩ := list_head hn
  have HN := Lib.hid hn
  have HR0 := Lib.hid (Rd.new w s a 0 62)
  have HB0 := Lib.hid ((Below.refl w.heap.size w).alloc (Nat.le_refl _) (.cells #[.string s, .int .i64 a, .int .i64 0] 62))
  clear hn
  obtain ⟨n, hv⟩ : ∃ n : Nat, v = n := ⟨v.toNat, by
    by_cases h : e1 = 0
    · have := hh2 h; omega
    · have := hh1 h; omega⟩
  subst hv
  have hn2 : n ≤ 4096 := by
    by_cases h : e1 = 0
    · have := hh2 h; omega
    · have := hh1 h; omega
  have hmk := run_make_ints n (by omega)
  obtain ⟨i0, hi, hz0, hz1, hz2⟩ := info_parts Try.info3
  have HH1 := Lib.hid hh1
  have HH2 := Lib.hid hh2
  clear hh1 hh2
  go_enter Try.func23, Try.ntmps23
  go_wp2_with fail
  refine (number_any w.heap.size s a 0 0 4096 n j e1 _ HS.out HR0.out HN).mono ?_
  rintro e w1 ⟨rfl, hr1, hg1⟩
  have HR1 := Lib.hid (hr1.grown (World.grownBy_alloc w1 (madeInts n) none) (by simp))
  have HB1 := Lib.hid ((HB0.out.grown hg1 HB0.out.size (by rintro k ⟨⟩; exact Nat.le_refl _)).alloc ((HB0.out.grown hg1 HB0.out.size (by rintro k ⟨⟩; exact Nat.le_refl _)).size) (madeInts n))
  have HO1 := Lib.hid (Ints.made w1 (w.heap.size + 1) n hr1.2.2.2.2.2 (by omega))
  have HE0 : Hid (e1 = 0 → getLF s a (n - 0) j 0 [] = (L, i, er)) := by
    intro h
    have := (HH2.out h).2.2
    rw [← hE.out, this]; rfl
  have HX : Hid (e1 ≠ 0 → n = 0 ∧ (([] : List Int), a, e1) = (L, i, er)) := by
    intro h
    have := HH1.out h
    exact ⟨by omega, by rw [← hE.out, this.2]⟩
  have HG : Hid (w1.heap.size < (w1.alloc (madeInts n)).heap.size) := by unfold Hid; simp
  clear hr1 hg1 HH1 HH2
  go_wp2
  go_loopw [9, 10, 18] (fun vv lv iv wr => ∃ (k : Nat) (last j : Int) (out : List Int), k ≤ n ∧ iv = .int .i64 k ∧ lv = .int .i64 last ∧ -1073741824 ≤ last ∧ last ≤ 1073741824 ∧ out.length ≤ k ∧ Hid (e1 = 0 → getLF s a (n - k) j last out = (L, i, er)) ∧ Hid (Rd wr w.heap.size s j e1) ∧ Hid (Ints wr (w.heap.size + 1) vv out) ∧ Hid (Below w.heap.size w wr)) (fun _ _ iv _ => n - (intOf iv).toNat)
  case atStart => exact ⟨0, 0, j, [], Nat.zero_le _, rfl, rfl, by omega, by omega, Nat.zero_le _, HE0, HR1, HO1, HB1⟩
  case round =>
    clear HE0 HR1 HO1 HB1 HG hmk
    obtain ⟨k, last, j, out, hk, rfl, rfl, hl0, hl1, hol, hEq, hr, ho, hbel⟩ := hrel
    by_cases hlt : k < n
    · have h0 : e1 = 0 := by
        by_cases h : e1 = 0
        · exact h
        · have := (HX.out h).1; omega
      subst h0
      obtain ⟨m, hm⟩ : ∃ m, n - k = m + 1 := ⟨n - k - 1, by omega⟩
      obtain ⟨v, j2, e2, hnum⟩ : ∃ v j2 e2, numS s j 0 (-1073741824 - last) (1073741824 - last) = (v, j2, e2) := ⟨_, _, _, rfl⟩
      obtain ⟨st1, st2⟩ := list_step (a := a) (m := m) (out := out) ⟨hl0, hl1⟩ hnum
      have hEq2 := hEq.out rfl
      rw [hm] at hEq2
      have HNUM := Lib.hid hnum
      have HM := Lib.hid hm
      clear hnum hm hEq
      by_cases he : e2 = 0
      · obtain ⟨b0, b1, st⟩ := st2 he
        rw [st] at hEq2
        subst he
        have HQ : Hid (getLF s a (n - (k + 1)) j2 (last + v) (out ++ [last + v]) = (L, i, er)) := by
          have := HM.out
          unfold Hid; rw [show n - (k + 1) = m by omega]; exact hEq2
        clear st st1 st2 hEq2
        go_wp2_with fail
        refine (number_any w.heap.size s j 0 _ _ v j2 0 _ HS.out hr.out HNUM).mono ?_
        rintro e w2 ⟨rfl, hr2, hg2⟩
        have HR2 := Lib.hid hr2
        have HO2 := Lib.hid (ho.out.kept hg2 (by rintro k ⟨⟩; omega))
        have HB2 := Lib.hid (hbel.out.grown hg2 hbel.out.size (by rintro k ⟨⟩; exact Nat.le_refl _))
        clear hr2 hg2
        have HF2 := Lib.hid (Nat.succ_le_of_lt HR2.out.2.2.2.2.2)
        obtain ⟨c0, c1, c2, f1, f2, f3⟩ := HR2.out
        go_wp2_with (at_builtin; refine wpList_append_own _ rfl _ _ 27 rfl (w.heap.size + 1) 3 i0 (.int .i64 0) 1 8 Try.underlying27 hi hz0 hz1 hz2 rfl (by decide) _ _ _ rfl (HO2.out.alloc _) ⟨w2.heap.size, 0, none⟩ 1 1 [.int .i64 (last + v)] rfl rfl (cell_one_new _ _ _) ?c2 ?c3 ?c4 ?c5 ?_)
        case c2 => intro u hu; simp at hu; subst hu; rfl
        case c3 => unfold maxLen; omega
        case c4 => omega
        case c5 => have := HF2.out; simp; omega
        intro v3 w3 hown3 hg3 _
        have HO3 : Hid (Ints w3 (w.heap.size + 1) v3 (out ++ [last + v])) := by unfold Hid Ints; simpa using hown3
        have HR3 := Lib.hid ((HR2.out.grown (World.grownBy_alloc w2 (.cells #[.int .i64 (last + v)] 3) none) (by simp)).grown hg3 (fun e => by have := HO2.out.base _ e; omega))
        have HB3 := Lib.hid ((HB2.out.alloc HB2.out.size (.cells #[.int .i64 (last + v)] 3)).grown hg3 (by have := HB2.out.size; simp; omega) (fun k hk => by have := HO2.out.base k hk; omega))
        clear hown3 hg3 c0 c1 c2 f1 f2 f3
        go_wp2
        go_roundw
        case rel => exact ⟨k + 1, last + v, j2, out ++ [last + v], by omega, by go_num, rfl, by omega, by omega, by simp; omega, fun _ => HQ.out, HR3, HO3, HB3⟩
        case measure => simp [intOf]; omega
      · obtain ⟨b0, st⟩ := st1 he
        rw [st] at hEq2
        injection hEq2 with x1 x2
        injection x2 with x2 x3
        subst x1; subst x2; subst x3; subst b0
        have hd : (e2 != 0) = true := by simp [he]
        clear st st1 st2 he
        go_wp2_with fail
        refine (number_any w.heap.size s j 0 _ _ 0 j2 e2 _ HS.out hr.out HNUM).mono ?_
        rintro e w2 ⟨rfl, hr2, hg2⟩
        have HR2 := Lib.hid hr2
        have HB2 := Lib.hid (hbel.out.grown hg2 hbel.out.size (by rintro k ⟨⟩; exact Nat.le_refl _))
        clear hr2 hg2
        obtain ⟨c0, c1, c2, f1, f2, f3⟩ := HR2.out
        go_wp2
        go_quiet (fail)
        go_wp2
        go_ret3
        exact RetL.of (Ints.nil _ 0) (pk_below_drewN HB2.out _)
    · obtain rfl : k = n := by omega
      obtain ⟨c0, c1, c2, f1, f2, f3⟩ := hr.out
      by_cases h0 : e1 = 0
      · have hEq2 := hEq.out h0
        rw [Nat.sub_self, getLF] at hEq2
        injection hEq2 with x1 x2
        injection x2 with x2 x3
        subst x1; subst x2; subst x3
        subst h0
        have hd : ((0 : Int) != 0) = false := rfl
        clear hEq
        go_wp2
        go_quiet (fail)
        go_wp2
        go_ret3
        exact RetL.of (B := w.heap.size + 1) ho.out (pk_below_drewN hbel.out _)
      · have hEq2 := (HX.out h0).2
        injection hEq2 with x1 x2
        injection x2 with x2 x3
        subst x1; subst x2; subst x3
        have hd : (e1 != 0) = true := by simp [h0]
        clear hEq h0
        go_wp2
        go_quiet (fail)
        go_wp2
        go_ret3
        exact RetL.of (Ints.nil _ 0) (pk_below_drewN hbel.out _)

end Go.Proofs.Ytimabgaobhfiaaa
