/-
  'agrees': every function of ranges answers as its reference.
-/
import Derived.Test.YtkapjihjbflliaaRanAt
namespace Go.Proofs.Ytkapjihjbflliaa
open Go.RowKit

theorem limS_length (l : List Sp) : (limS l).1.length ≤ 256 := by
  unfold limS
  split
  · simp
  · simp only; omega
theorem replS_length (l y : List Sp) (f t : Int) : (replS l f t y).1.length ≤ 256 := by
  unfold replS
  split
  · simp
  · split
    · simp
    · exact limS_length _
theorem overS_length (a b : List Sp) : (overS a b).1.length ≤ 256 := by
  unfold overS
  split
  · exact limS_length _
  · simp
theorem normS_length (a : List Sp) : (normS a).length ≤ 256 := by
  unfold normS
  split
  · exact Nat.le_trans (join_length _) (valid_len ‹_›)
  · simp

theorem named2 (x : List Sp × Int) (h : x.1.length ≤ 256) : ∃ L e, Hid (x = (L, e)) ∧ Hid (L.length ≤ maxLen) := ⟨x.1, x.2, rfl, by unfold Hid maxLen; omega⟩

set_option maxRecDepth 100000 in
set_option maxHeartbeats 8000000 in
theorem agrees_any (p q : Option Addr) (n m c d : Nat) (a b : List Sp) (lo hi x f t v : Int) (w : World) (hl : Hid (a.length = n)) (hm : Hid (b.length = m)) (hn : n ≤ maxLen) (hmm : m ≤ maxLen) (hd : m ≤ d) (hqd : Hid (q = none → d = 0)) (hin : SpIn w p a) (hin2 : SpIn w q b) :
    Calls Try.prog 11 #[.slice p n c, .slice q m d, .int .i64 lo, .int .i64 hi, .int .i64 x, .int .i64 f, .int .i64 t, .int .i64 v] w fun e w' => e = .returned (.bool true) ∧ Below w.heap.size w w' := by
  obtain ⟨fv, fb, hF⟩ : ∃ fv fb, Hid (findS a x = (fv, fb)) := ⟨_, _, rfl⟩
  obtain ⟨LS, eS, hS, kS⟩ := named2 (setS a f t v) (replS_length _ _ _ _)
  obtain ⟨LC, eC, hC, kC⟩ := named2 (clearS a f t) (replS_length _ _ _ _)
  obtain ⟨LO, eO, hO, kO⟩ := named2 (overS a b) (overS_length _ _)
  obtain ⟨LN, hN⟩ : ∃ L, Hid (normS a = L) := ⟨_, rfl⟩
  have kN : Hid (LN.length ≤ maxLen) := by unfold Hid; rw [← hN.out]; have := normS_length a; unfold maxLen; omega
  obtain ⟨ck, hK⟩ : ∃ B, Hid (checkS a lo hi = B) := ⟨_, rfl⟩
  obtain ⟨ct, hT⟩ : ∃ z, Hid (cntS a = z) := ⟨_, rfl⟩
  have HA := Lib.hid hin
  have HQ := Lib.hid hin2
  have HB := Lib.hid (Below.refl w.heap.size w)
  have hne : ∀ (z : Int), (z == z) = true := fun z => by simp
  clear hin hin2 hne
  go_enter Try.func11, Try.ntmps11
  go_wp2_with fail
  refine (find_at p n c a x fv fb _ hl hn HA.out hF).mono ?_
  rintro e w1 ⟨rfl, hb1⟩
  replace HA := Lib.hid (HA.out.below hb1)
  replace HQ := Lib.hid (HQ.out.below hb1)
  replace HB := Lib.hid (HB.out.trans (hb1.mono HB.out.size))
  clear hb1
  go_wp2_with fail
  refine (rfind_at p n c a x fv fb _ hl hn HA.out hF).mono ?_
  rintro e w2 ⟨rfl, hb2⟩
  replace HA := Lib.hid (HA.out.below hb2)
  replace HQ := Lib.hid (HQ.out.below hb2)
  replace HB := Lib.hid (HB.out.trans (hb2.mono HB.out.size))
  clear hb2
  go_wp2_with fail
  refine (set_at p n c a LS f t v eS _ hl hn HA.out hS).mono ?_
  rintro e w3 ⟨p1, c1, rfl, _, H1, hb3⟩
  replace HA := Lib.hid (HA.out.below hb3)
  replace HQ := Lib.hid (HQ.out.below hb3)
  replace HB := Lib.hid (HB.out.trans (hb3.mono HB.out.size))
  clear hb3
  go_wp2_with fail
  refine (rset_at p n c a LS f t v eS _ hl hn HA.out hS).mono ?_
  rintro e w4 ⟨p2, c2, rfl, _, H2, hb4⟩
  replace HA := Lib.hid (HA.out.below hb4)
  replace HQ := Lib.hid (HQ.out.below hb4)
  replace H1 := Lib.hid (H1.out.below hb4)
  replace HB := Lib.hid (HB.out.trans (hb4.mono HB.out.size))
  clear hb4
  go_wp2_with fail
  refine (clear_at p n c a LC f t eC _ hl hn HA.out hC).mono ?_
  rintro e w5 ⟨p3, c3, rfl, _, H3, hb5⟩
  replace HA := Lib.hid (HA.out.below hb5)
  replace HQ := Lib.hid (HQ.out.below hb5)
  replace H1 := Lib.hid (H1.out.below hb5)
  replace H2 := Lib.hid (H2.out.below hb5)
  replace HB := Lib.hid (HB.out.trans (hb5.mono HB.out.size))
  clear hb5
  go_wp2_with fail
  refine (rclear_at p n c a LC f t eC _ hl hn HA.out hC).mono ?_
  rintro e w6 ⟨p4, c4, rfl, _, H4, hb6⟩
  replace HA := Lib.hid (HA.out.below hb6)
  replace HQ := Lib.hid (HQ.out.below hb6)
  replace H1 := Lib.hid (H1.out.below hb6)
  replace H2 := Lib.hid (H2.out.below hb6)
  replace H3 := Lib.hid (H3.out.below hb6)
  replace HB := Lib.hid (HB.out.trans (hb6.mono HB.out.size))
  clear hb6
  go_wp2_with fail
  refine (overlay_at p q n m c d a b LO eO _ hl hm hn hmm hd hqd HA.out HQ.out hO).mono ?_
  rintro e w7 ⟨p5, c5, rfl, _, H5, hb7⟩
  replace HA := Lib.hid (HA.out.below hb7)
  replace HQ := Lib.hid (HQ.out.below hb7)
  replace H1 := Lib.hid (H1.out.below hb7)
  replace H2 := Lib.hid (H2.out.below hb7)
  replace H3 := Lib.hid (H3.out.below hb7)
  replace H4 := Lib.hid (H4.out.below hb7)
  replace HB := Lib.hid (HB.out.trans (hb7.mono HB.out.size))
  clear hb7
  go_wp2_with fail
  refine (roverlay_at p q n m c d a b LO eO _ hl hm hn hmm HA.out HQ.out hO).mono ?_
  rintro e w8 ⟨p6, c6, rfl, _, H6, hb8⟩
  replace HA := Lib.hid (HA.out.below hb8)
  replace HQ := Lib.hid (HQ.out.below hb8)
  replace H1 := Lib.hid (H1.out.below hb8)
  replace H2 := Lib.hid (H2.out.below hb8)
  replace H3 := Lib.hid (H3.out.below hb8)
  replace H4 := Lib.hid (H4.out.below hb8)
  replace H5 := Lib.hid (H5.out.below hb8)
  replace HB := Lib.hid (HB.out.trans (hb8.mono HB.out.size))
  clear hb8
  go_wp2_with fail
  refine (check_at p n c a lo hi ck _ hl hn HA.out hK).mono ?_
  rintro e w9 ⟨rfl, hb9⟩
  replace HA := Lib.hid (HA.out.below hb9)
  replace HQ := Lib.hid (HQ.out.below hb9)
  replace H1 := Lib.hid (H1.out.below hb9)
  replace H2 := Lib.hid (H2.out.below hb9)
  replace H3 := Lib.hid (H3.out.below hb9)
  replace H4 := Lib.hid (H4.out.below hb9)
  replace H5 := Lib.hid (H5.out.below hb9)
  replace H6 := Lib.hid (H6.out.below hb9)
  replace HB := Lib.hid (HB.out.trans (hb9.mono HB.out.size))
  clear hb9
  go_wp2_with fail
  refine (rcheck_at p n c a lo hi ck _ hl hn HA.out hK).mono ?_
  rintro e w10 ⟨rfl, hb10⟩
  replace HA := Lib.hid (HA.out.below hb10)
  replace HQ := Lib.hid (HQ.out.below hb10)
  replace H1 := Lib.hid (H1.out.below hb10)
  replace H2 := Lib.hid (H2.out.below hb10)
  replace H3 := Lib.hid (H3.out.below hb10)
  replace H4 := Lib.hid (H4.out.below hb10)
  replace H5 := Lib.hid (H5.out.below hb10)
  replace H6 := Lib.hid (H6.out.below hb10)
  replace HB := Lib.hid (HB.out.trans (hb10.mono HB.out.size))
  clear hb10
  go_wp2_with fail
  refine (normal_at p n c a LN _ hl hn HA.out hN).mono ?_
  rintro e w11 ⟨p7, c7, rfl, _, H7, hb11⟩
  replace HA := Lib.hid (HA.out.below hb11)
  replace HQ := Lib.hid (HQ.out.below hb11)
  replace H1 := Lib.hid (H1.out.below hb11)
  replace H2 := Lib.hid (H2.out.below hb11)
  replace H3 := Lib.hid (H3.out.below hb11)
  replace H4 := Lib.hid (H4.out.below hb11)
  replace H5 := Lib.hid (H5.out.below hb11)
  replace H6 := Lib.hid (H6.out.below hb11)
  replace HB := Lib.hid (HB.out.trans (hb11.mono HB.out.size))
  clear hb11
  go_wp2_with fail
  refine (rnormal_at p n c a LN _ hl hn HA.out hN).mono ?_
  rintro e w12 ⟨p8, c8, rfl, _, H8, hb12⟩
  replace HA := Lib.hid (HA.out.below hb12)
  replace HQ := Lib.hid (HQ.out.below hb12)
  replace H1 := Lib.hid (H1.out.below hb12)
  replace H2 := Lib.hid (H2.out.below hb12)
  replace H3 := Lib.hid (H3.out.below hb12)
  replace H4 := Lib.hid (H4.out.below hb12)
  replace H5 := Lib.hid (H5.out.below hb12)
  replace H6 := Lib.hid (H6.out.below hb12)
  replace H7 := Lib.hid (H7.out.below hb12)
  replace HB := Lib.hid (HB.out.trans (hb12.mono HB.out.size))
  clear hb12
  go_wp2_with fail
  refine (sameS_at _ _ _ _ _ _ LN _ H7.out H8.out rfl rfl kN.out).mono ?_
  rintro e w13 ⟨rfl, hb13⟩
  replace HA := Lib.hid (HA.out.below hb13)
  replace HQ := Lib.hid (HQ.out.below hb13)
  replace H1 := Lib.hid (H1.out.below hb13)
  replace H2 := Lib.hid (H2.out.below hb13)
  replace H3 := Lib.hid (H3.out.below hb13)
  replace H4 := Lib.hid (H4.out.below hb13)
  replace H5 := Lib.hid (H5.out.below hb13)
  replace H6 := Lib.hid (H6.out.below hb13)
  replace H7 := Lib.hid (H7.out.below hb13)
  replace H8 := Lib.hid (H8.out.below hb13)
  replace HB := Lib.hid (HB.out.trans (hb13.mono HB.out.size))
  clear hb13
  go_wp2_with fail
  refine (sameS_at _ _ _ _ _ _ LS _ H1.out H2.out rfl rfl kS.out).mono ?_
  rintro e w14 ⟨rfl, hb14⟩
  replace HA := Lib.hid (HA.out.below hb14)
  replace HQ := Lib.hid (HQ.out.below hb14)
  replace H1 := Lib.hid (H1.out.below hb14)
  replace H2 := Lib.hid (H2.out.below hb14)
  replace H3 := Lib.hid (H3.out.below hb14)
  replace H4 := Lib.hid (H4.out.below hb14)
  replace H5 := Lib.hid (H5.out.below hb14)
  replace H6 := Lib.hid (H6.out.below hb14)
  replace H7 := Lib.hid (H7.out.below hb14)
  replace H8 := Lib.hid (H8.out.below hb14)
  replace HB := Lib.hid (HB.out.trans (hb14.mono HB.out.size))
  clear hb14
  go_wp2_with fail
  refine (sameS_at _ _ _ _ _ _ LC _ H3.out H4.out rfl rfl kC.out).mono ?_
  rintro e w15 ⟨rfl, hb15⟩
  replace HA := Lib.hid (HA.out.below hb15)
  replace HQ := Lib.hid (HQ.out.below hb15)
  replace H1 := Lib.hid (H1.out.below hb15)
  replace H2 := Lib.hid (H2.out.below hb15)
  replace H3 := Lib.hid (H3.out.below hb15)
  replace H4 := Lib.hid (H4.out.below hb15)
  replace H5 := Lib.hid (H5.out.below hb15)
  replace H6 := Lib.hid (H6.out.below hb15)
  replace H7 := Lib.hid (H7.out.below hb15)
  replace H8 := Lib.hid (H8.out.below hb15)
  replace HB := Lib.hid (HB.out.trans (hb15.mono HB.out.size))
  clear hb15
  go_wp2_with fail
  refine (sameS_at _ _ _ _ _ _ LO _ H5.out H6.out rfl rfl kO.out).mono ?_
  rintro e w16 ⟨rfl, hb16⟩
  replace HA := Lib.hid (HA.out.below hb16)
  replace HQ := Lib.hid (HQ.out.below hb16)
  replace H1 := Lib.hid (H1.out.below hb16)
  replace H2 := Lib.hid (H2.out.below hb16)
  replace H3 := Lib.hid (H3.out.below hb16)
  replace H4 := Lib.hid (H4.out.below hb16)
  replace H5 := Lib.hid (H5.out.below hb16)
  replace H6 := Lib.hid (H6.out.below hb16)
  replace H7 := Lib.hid (H7.out.below hb16)
  replace H8 := Lib.hid (H8.out.below hb16)
  replace HB := Lib.hid (HB.out.trans (hb16.mono HB.out.size))
  clear hb16
  go_wp2_with fail
  refine (count_at p n c a ct _ hl hn HA.out hT).mono ?_
  rintro e w17 ⟨rfl, hb17⟩
  replace HA := Lib.hid (HA.out.below hb17)
  replace HQ := Lib.hid (HQ.out.below hb17)
  replace H1 := Lib.hid (H1.out.below hb17)
  replace H2 := Lib.hid (H2.out.below hb17)
  replace H3 := Lib.hid (H3.out.below hb17)
  replace H4 := Lib.hid (H4.out.below hb17)
  replace H5 := Lib.hid (H5.out.below hb17)
  replace H6 := Lib.hid (H6.out.below hb17)
  replace H7 := Lib.hid (H7.out.below hb17)
  replace H8 := Lib.hid (H8.out.below hb17)
  replace HB := Lib.hid (HB.out.trans (hb17.mono HB.out.size))
  clear hb17
  go_wp2_with fail
  refine (rcount_at p n c a ct _ hl hn HA.out hT).mono ?_
  rintro e w18 ⟨rfl, hb18⟩
  replace HA := Lib.hid (HA.out.below hb18)
  replace HQ := Lib.hid (HQ.out.below hb18)
  replace H1 := Lib.hid (H1.out.below hb18)
  replace H2 := Lib.hid (H2.out.below hb18)
  replace H3 := Lib.hid (H3.out.below hb18)
  replace H4 := Lib.hid (H4.out.below hb18)
  replace H5 := Lib.hid (H5.out.below hb18)
  replace H6 := Lib.hid (H6.out.below hb18)
  replace H7 := Lib.hid (H7.out.below hb18)
  replace H8 := Lib.hid (H8.out.below hb18)
  replace HB := Lib.hid (HB.out.trans (hb18.mono HB.out.size))
  clear hb18
  go_wp2
  go_ret
  exact ⟨rfl, HB.out⟩

end Go.Proofs.Ytkapjihjbflliaa
