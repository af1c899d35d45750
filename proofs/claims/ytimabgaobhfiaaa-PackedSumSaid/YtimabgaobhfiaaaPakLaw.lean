/-
  The example of chapter 3; 'agrees'; what the statements share.
-/
import Derived.Test.YtimabgaobhfiaaaPakD
import Derived.Test.YtimabgaobhfiaaaPakH
import Derived.Test.YtimabgaobhfiaaaPakRefC
import Derived.Test.YtimabgaobhfiaaaPakRefD
import Derived.Test.YtimabgaobhfiaaaPakRefE
import Derived.Test.YtimabgaobhfiaaaRanSame
import Derived.Test.YtimabgaobhfiaaaSame
import Derived.Test.YtimabgaobhfiaaaPick
namespace Go.Proofs.Ytimabgaobhfiaaa
open Go.RowKit

theorem sameI_at (p q : Option Addr) (c d n m : Nat) (xs : List Int) (w : World) (hx : IntsIn w p xs) (hy : IntsIn w q xs) (hn : Hid (xs.length = n)) (hm : Hid (xs.length = m)) (hl : xs.length ≤ maxLen) :
    Calls Try.prog 24 #[.slice p n c, .slice q m d] w fun e w' => e = .returned (.bool true) ∧ Below w.heap.size w w' := by
  have h1 := hn.out
  have h2 := hm.out
  subst h1; subst h2
  have := same_any p q c d xs xs w hx hy hl hl
  rwa [show (xs == xs) = true by simp] at this

theorem pickP_at (v n q : Int) (w : World) (h0 : 1 ≤ n) (h1 : n ≤ 1125899906842624) (hq : Hid (pickS v n = q)) :
    Calls Try.prog 13 #[.int .i64 v, .int .i64 n] w fun e w' => e = .returned (.int .i64 q) ∧ w = w' := hq.out ▸ pickL_any v n w h0 h1

theorem pick_name (v n : Int) (h : 1 ≤ n) : ∃ z, Hid (pickS v n = z) ∧ 0 ≤ z ∧ z < n := ⟨_, rfl, pickS_bd v n h⟩

theorem isI_wf {v : Int} (h : (Lit.int .i64 v).wf = true) : IsI v := by
  simp only [Lit.wf, Bool.and_eq_true, decide_eq_true_eq] at h
  exact h

/-- What GetInt answers is an int. -/
theorem getS_isI {s : ByteArray} {a v i er : Int} (h : getS s a = (v, i, er)) : IsI v := by
  by_cases h1 : a < 0 ∨ (s.size : Int) < a
  · rw [getS_out h1] at h
    injection h with e1 _
    subst e1
    exact isI_small (by omega) (by omega)
  · rw [getS, if_neg h1] at h
    by_cases he : (getR 0 0 ((nums s).drop a.toNat)).1 = 0
    · rw [if_pos he] at h
      injection h with e1 _
      obtain ⟨⟨x, U, n⟩, hg⟩ : ∃ x, getR 0 0 ((nums s).drop a.toNat) = x := ⟨_, rfl⟩
      rw [hg] at e1 he
      simp only at e1 he
      subst he
      obtain ⟨u, i1, i2, i3, _⟩ := cod_get _ 0 n 0 U (fun x hx => nums_bytes s x (List.mem_of_mem_drop hx)) (by omega) hg
      simp only [p7, Nat.sub_zero, Int.mul_one, Int.zero_add] at i2 i3
      subst i3
      have h9 := p7_9
      simp only [p7] at h9
      have hb := unzz_bd U i1 (by omega)
      rw [e1] at hb
      exact hb
    · rw [if_neg he] at h
      injection h with e1 _
      subst e1
      exact isI_small (by omega) (by omega)

theorem isI_shr (v : Int) (q : Nat) (h : IsI v) : IsI (v / 2 ^ q) := by
  obtain ⟨h0, h1⟩ := h
  have hp : (1 : Int) ≤ 2 ^ q := Int.pow_pos (by omega) |> fun h => h
  constructor
  · apply Int.le_ediv_of_mul_le (by omega)
    have : (9223372036854775808 : Int) * 1 ≤ 9223372036854775808 * 2 ^ q := Int.mul_le_mul_of_nonneg_left hp (by omega)
    rw [Int.neg_mul]
    omega
  · by_cases h : 0 ≤ v
    · have := Int.ediv_le_self (2 ^ q) h; omega
    · have := Int.ediv_neg_of_neg_of_pos (a := v) (b := 2 ^ q) (by omega) (by omega); omega

theorem getLF_len (s : ByteArray) (a : Int) (n : Nat) (i last : Int) (out : List Int) : (getLF s a n i last out).1.length ≤ out.length + n := by
  induction n generalizing i last out with
  | zero => simp [getLF]
  | succ n ih =>
    rw [getLF]
    split
    · simp
    · split
      · simp
      · refine Nat.le_trans (ih _ _ _) ?_
        simp; omega

theorem getListS_len (s : ByteArray) (a : Int) : (getListS s a).1.length ≤ 4096 := by
  rw [getListS]
  split
  · simp
  · split
    · simp
    · refine Nat.le_trans (getLF_len _ _ _ _ _ _) ?_
      simp; omega

theorem getSF_len (s : ByteArray) (a : Int) (n : Nat) (first : Bool) (i last : Int) (out : List Sp) : (getSF s a n first i last out).1.length ≤ out.length + n := by
  induction n generalizing first i last out with
  | zero => simp [getSF]
  | succ n ih =>
    rw [getSF]
    simp only
    split
    · simp
    · split
      · simp
      · split
        · simp
        · split
          · simp
          · split
            · simp
            · split
              · simp
              · refine Nat.le_trans (ih _ _ _ _) ?_
                simp; omega

theorem getSpansS_len (s : ByteArray) (a : Int) : (getSpansS s a).1.length ≤ 256 := by
  rw [getSpansS]
  split
  · simp
  · split
    · simp
    · refine Nat.le_trans (getSF_len _ _ _ _ _ _ _) ?_
      simp; omega

set_option maxHeartbeats 2000000 in
theorem awake_any (w : World) : Calls Try.prog 11 #[] w fun e w' => e = .returned (.bool true) ∧ Below w.heap.size w w' := by
  have H1 : Hid (getS ⟨#[128, 0]⟩ 0 = (0, 0, 4)) := by unfold Hid; decide +kernel
  have H2 : Hid (getS ⟨#[128]⟩ 0 = (0, 0, 5)) := by unfold Hid; decide +kernel
  have P1 : Hid ((⟨#[]⟩ : ByteArray) ++ putB 0 = ⟨#[0]⟩) := by unfold Hid; decide +kernel
  have P2 : Hid ((⟨#[]⟩ : ByteArray) ++ putB (-1) = ⟨#[1]⟩) := by unfold Hid; decide +kernel
  have P3 : Hid ((⟨#[]⟩ : ByteArray) ++ putB 64 = ⟨#[128, 1]⟩) := by unfold Hid; decide +kernel
  have S1 : Hid (sumS ⟨#[]⟩ = 2166136261) := rfl
  have L2 : (⟨#[128, 0]⟩ : ByteArray).size ≤ maxLen := by decide +kernel
  have L1 : (⟨#[128]⟩ : ByteArray).size ≤ maxLen := by decide +kernel
  have L0 : (⟨#[]⟩ : ByteArray).size ≤ maxLen := by decide +kernel
  have L3 : (⟨#[]⟩ : ByteArray).size ≤ 140737490452000 := by decide +kernel
  have I0 : Hid (IsI 0) := isI_small (by omega) (by omega)
  have I1 : Hid (IsI (-1)) := isI_small (by omega) (by omega)
  have I2 : Hid (IsI 64) := isI_small (by omega) (by omega)
  have HL2 := Lib.hid L2
  have HL1 := Lib.hid L1
  have HL0 := Lib.hid L0
  have HL3 := Lib.hid L3
  clear L2 L1 L0 L3
  go_enter Try.func11, Try.ntmps11
  go_wp2_with fail
  refine (getInt_any _ 0 0 0 4 _ HL2.out H1).mono ?_
  rintro e w1 ⟨rfl, m1, rfl⟩
  go_wp2_with fail
  refine (getInt_any _ 0 0 0 5 _ HL1.out H2).mono ?_
  rintro e w1 ⟨rfl, m2, rfl⟩
  have HB1 := Lib.hid (pk_below_drewN (pk_below_drewN (Below.refl w.heap.size w) m1) m2)
  generalize (w.drewN m1).drewN m2 = W at HB1 ⊢
  go_wp2_with fail
  refine (putInt_any _ _ 0 _ HL3.out I0.out P1).mono ?_
  rintro e w2 ⟨rfl, hb2⟩
  have HB2 := Lib.hid (HB1.out.trans (hb2.mono HB1.out.size))
  clear hb2
  go_wp2_with fail
  refine (putInt_any _ _ (-1) _ HL3.out I1.out P2).mono ?_
  rintro e w3 ⟨rfl, hb3⟩
  have HB3 := Lib.hid (HB2.out.trans (hb3.mono HB2.out.size))
  clear hb3
  go_wp2_with fail
  refine (putInt_any _ _ 64 _ HL3.out I2.out P3).mono ?_
  rintro e w4 ⟨rfl, hb4⟩
  have HB4 := Lib.hid (HB3.out.trans (hb4.mono HB3.out.size))
  clear hb4
  go_wp2_with fail
  refine (sum_any _ _ _ HL0.out S1).mono ?_
  rintro e w5 ⟨rfl, rfl⟩
  go_wp2
  go_ret
  exact ⟨rfl, HB4.out⟩

set_option maxRecDepth 100000 in
set_option maxHeartbeats 4000000 in
theorem agrees_any (s : ByteArray) (a : Int) (w : World) (hs : s.size ≤ maxLen) :
    Calls Try.prog 12 #[.string s, .int .i64 a] w fun e w' => e = .returned (.bool true) ∧ Below w.heap.size w w' := by
  obtain ⟨v, i, er, hg⟩ : ∃ v i er, getS s a = (v, i, er) := ⟨_, _, _, rfl⟩
  obtain ⟨L, il, el, hl⟩ : ∃ L il el, getListS s a = (L, il, el) := ⟨_, _, _, rfl⟩
  obtain ⟨M, im, em, hm⟩ : ∃ M im em, getSpansS s a = (M, im, em) := ⟨_, _, _, rfl⟩
  have HG := Lib.hid hg
  have HL := Lib.hid hl
  have HM := Lib.hid hm
  have HS := Lib.hid hs
  clear hg hl hm hs
  have LL : Hid (L.length ≤ maxLen) := by
    have := getListS_len s a
    rw [HL.out] at this
    unfold Hid maxLen; simp only at this; omega
  have LM : Hid (M.length ≤ maxLen) := by
    have := getSpansS_len s a
    rw [HM.out] at this
    unfold Hid maxLen; simp only at this; omega
  go_enter Try.func12, Try.ntmps12
  go_wp2_with fail
  refine (getInt_any s a v i er _ HS.out HG).mono ?_
  rintro e w1 ⟨rfl, m1, rfl⟩
  have HB1 := Lib.hid (pk_below_drewN (Below.refl w.heap.size w) m1)
  generalize w.drewN m1 = W at HB1 ⊢
  go_wp2_with fail
  refine (rgetInt_any s a v i er _ HS.out HG).mono ?_
  rintro e w2 ⟨rfl, rfl⟩
  go_wp2_with fail
  refine (getList_any s a L il el _ HS.out HL).mono ?_
  rintro e w3 ⟨p3, c3, rfl, hi3, hb3⟩
  have HB3 := Lib.hid (HB1.out.trans (hb3.mono HB1.out.size))
  clear hb3
  go_wp2_with fail
  refine (rgetList_any s a L il el _ HS.out HL).mono ?_
  rintro e w4 ⟨p4, c4, rfl, hi4, hb4⟩
  have HI3 := Lib.hid (hi3.out.below hb4)
  have HB4 := Lib.hid (HB3.out.trans (hb4.mono HB3.out.size))
  clear hb4 hi3
  go_wp2_with fail
  refine (getSpans_any s a M im em _ HS.out HM).mono ?_
  rintro e w5 ⟨p5, c5, rfl, hi5, hb5⟩
  have HI3b := Lib.hid (HI3.out.below hb5)
  have HI4b := Lib.hid (hi4.out.below hb5)
  have HB5 := Lib.hid (HB4.out.trans (hb5.mono HB4.out.size))
  clear hb5 HI3 hi4
  go_wp2_with fail
  refine (rgetSpans_any s a M im em _ HS.out HM).mono ?_
  rintro e w6 ⟨p6, c6, rfl, hi6, hb6⟩
  have HI3c := Lib.hid (HI3b.out.below hb6)
  have HI4c := Lib.hid (HI4b.out.below hb6)
  have HI5c := Lib.hid (hi5.out.below hb6)
  have HB6 := Lib.hid (HB5.out.trans (hb6.mono HB5.out.size))
  clear hb6 HI3b HI4b hi5
  go_wp2_with fail
  refine (sameI_at _ _ _ _ _ _ L _ HI3c.out HI4c.out (Lib.hid rfl) (Lib.hid rfl) LL.out).mono ?_
  rintro e w7 ⟨rfl, hb7⟩
  have HI5d := Lib.hid (HI5c.out.below hb7)
  have HI6d := Lib.hid (hi6.out.below hb7)
  have HB7 := Lib.hid (HB6.out.trans (hb7.mono HB6.out.size))
  clear hb7 HI5c hi6
  go_wp2_with fail
  refine (sameS_at _ _ _ _ _ _ M _ HI5d.out HI6d.out (Lib.hid rfl) (Lib.hid rfl) LM.out).mono ?_
  rintro e w8 ⟨rfl, hb8⟩
  have HB8 := Lib.hid (HB7.out.trans (hb8.mono HB7.out.size))
  clear hb8
  go_wp2
  go_ret
  exact ⟨rfl, HB8.out⟩

theorem agrees_at (s : ByteArray) (a : Int) (w : World) (hs : Hid (s.size ≤ maxLen)) :
    Calls Try.prog 12 #[.string s, .int .i64 a] w fun e w' => e = .returned (.bool true) ∧ Below w.heap.size w w' := agrees_any s a w hs.out

end Go.Proofs.Ytimabgaobhfiaaa
