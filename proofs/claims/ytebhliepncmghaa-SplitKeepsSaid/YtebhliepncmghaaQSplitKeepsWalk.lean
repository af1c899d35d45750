/-
  The walk of SplitKeeps.
-/
import Derived.Test.YtebhliepncmghaaQSplLaw
set_option linter.unusedSimpArgs false
set_option linter.unusedVariables false
namespace Go.Proofs.Ytebhliepncmghaa.splitKeepsW
open Go.RowKit
set_option linter.unusedVariables false

/-- Labels whose cells are written: the slices stand, the cells may be stored into. -/
structure HdSt (w : World) (B C g : Nat) (D : List (List Int)) : Prop where
  hd : ∀ m, m < D.length → ∃ q c, w.cell? ⟨g, m, none⟩ = some (.slice q (D.getD m []).length c) ∧ ∀ t, t < (D.getD m []).length → ∃ b off z, q = some ⟨b, off, none⟩ ∧ B ≤ b ∧ b < C ∧ b ≠ g ∧ w.cell? ⟨b, off + t, none⟩ = some (.int .i64 z) ∧ w.frozen? ⟨b, off + t, none⟩ = false
theorem HdSt.of {w : World} {B g cap : Nat} {D : List (List Int)} (h : LsNew w B g cap D) : HdSt w B w.heap.size g D where
  hd := fun m hm => by
    obtain ⟨v, hc, ⟨q, c, rfl, _, hi, ho⟩, hne⟩ := h.hd m hm
    refine ⟨q, c, hc, fun t ht => ?_⟩
    obtain ⟨b, off, e, hk⟩ := hi t ht
    rcases ho with ho | ⟨b2, o2, e2, h1, h2, h3⟩
    · rw [ho] at e; cases e
    · rw [e] at e2
      cases e2
      exact ⟨b, off, _, e, h1, h2, fun e3 => hne (by rw [e, e3]; rfl), hk, h3 t ht⟩
theorem HdSt.below {w w' : World} {B C g : Nat} {D : List (List Int)} (h : HdSt w B C g D) (hb : Below w.heap.size w w') : HdSt w' B C g D where
  hd := fun m hm => by
    obtain ⟨q, c, hc, hi⟩ := h.hd m hm
    refine ⟨q, c, cell_below hc hb, fun t ht => ?_⟩
    obtain ⟨b, off, z, e, h1, h2, h3, h4, h5⟩ := hi t ht
    exact ⟨b, off, z, e, h1, h2, h3, cell_below h4 hb, (World.frozen?_of_block (hb.block b (World.block_lt_of_cell? w _ h4))).trans h5⟩
theorem HdSt.put {w : World} {B C g b0 o0 : Nat} {D : List (List Int)} (h : HdSt w B C g D) (hne : b0 ≠ g) (z0 : Int) : HdSt (w.setCell ⟨b0, o0, none⟩ (.int .i64 z0)) B C g D where
  hd := fun m hm => by
    obtain ⟨q, c, hc, hi⟩ := h.hd m hm
    refine ⟨q, c, (World.cell?_setCell_other _ _ _ _ (by intro e; injection e with e1 _ _; exact hne e1)).trans hc, fun t ht => ?_⟩
    obtain ⟨b, off, z, e, h1, h2, h3, h4, h5⟩ := hi t ht
    by_cases he : (⟨b0, o0, none⟩ : Addr) = ⟨b, off + t, none⟩
    · rw [he]
      exact ⟨b, off, z0, e, h1, h2, h3, World.cell?_setCell_same _ _ _ h4, by rw [World.frozen?_setCell]; exact h5⟩
    · exact ⟨b, off, z, e, h1, h2, h3, (World.cell?_setCell_other _ _ _ _ he).trans h4, by rw [World.frozen?_setCell]; exact h5⟩

set_option maxRecDepth 100000 in
set_option maxHeartbeats 8000000 in
theorem walk (a0 : Option Addr) (len0 cap0 : Nat) (z0 : List Int) (w : World) (w0 : IsRow .i64 w a0 len0 cap0 z0) :
    Calls Try.prog 8 #[.slice a0 len0 cap0] w fun e w' => e = .returned (.bool true) ∧ Below w.heap.size w w' := by
  obtain ⟨zs, hzn, hzl, hzs, _⟩ := w0.inn
  simp only [IntKind.bits] at hzl
  have HZ := Lib.hid hzs
  have HZN : Hid (zs.length = len0) := hzn.symm
  have hzb : len0 ≤ 17592186043904 := by omega
  obtain ⟨ps, hP⟩ : ∃ ps, pointsF zs = ps := ⟨_, rfl⟩
  have HP := Lib.hid hP
  have hpl : ps.length ≤ 10 := by rw [← hP]; exact pointsF_len zs
  obtain ⟨D, hD⟩ : ∃ D, cutD ps = D := ⟨_, rfl⟩
  have HD := Lib.hid hD
  have HDB : Hid (∀ k, k < D.length → (D.getD k []).length ≤ 10) := fun k hk => by
    have h1 := cutD_lab ps (D.getD k []) (by rw [hD]; simp [hk])
    omega
  have HJ : Hid (joinD D = ps) := by unfold Hid; rw [← hD]; exact join_cut ps
  obtain ⟨dn, hdn⟩ : ∃ dn, D.length = dn := ⟨_, rfl⟩
  have HDN := Lib.hid hdn
  have hdb : dn ≤ 11 := by rw [← hdn, ← hD]; have := cutD_num ps; omega
  obtain ⟨pn, hpn⟩ : ∃ pn, ps.length = pn := ⟨_, rfl⟩
  have HPN := Lib.hid hpn
  have hp10 : pn ≤ 10 := by omega
  have HPL : Hid (ps.length ≤ 1099511627776) := by unfold Hid; omega
  clear hP hpl hD hdn hpn hzn hzl hzs w0
  go_enter Try.func8, Try.ntmps8
  go_wp2_with fail
  refine (kpoints_at a0 len0 cap0 zs ps _ HZ.out HZN hzb HP).mono ?_
  rintro e w4 ⟨v4, rfl, ho4, hb⟩
  obtain ⟨pp, pc, rfl, hpi, hpc⟩ := ints_capL ho4
  rw [HPN.out] at hpc ⊢
  have HPI := Lib.hid hpi
  have HB := Lib.hid hb
  replace HZ := Lib.hid (HZ.out.below hb)
  clear ho4 hpi hb
  go_wp2_with fail
  refine (labels_at pp pn pc ps _ HPI.out HPN hpc (by omega)).mono ?_
  rintro e w5 ⟨g5, c5, rfl, hn5, hb⟩
  rw [HD.out] at hn5 ⊢
  rw [HDN.out]
  have HNEW := Lib.hid hn5
  have HB5 := Lib.hid hb
  have hroom := hn5.room
  rw [HDN.out] at hroom
  clear hb hn5
  go_wp2_with fail
  refine (join_at (some ⟨g5, 0, none⟩) dn c5 D ps _ HNEW.out.inn HDN hroom (by omega) HJ HPL).mono ?_
  rintro e w6 ⟨v6, rfl, ho6, hb⟩
  obtain ⟨q6, c6, e6, hi6, _⟩ := ints_capL ho6
  rw [HPN.out] at e6
  have HO6 := Lib.hid ho6
  have HB6 := Lib.hid (HB5.out.trans (hb.mono HB5.out.size))
  have HHD := Lib.hid ((HdSt.of HNEW.out).below hb)
  have HSZ5 := Lib.hid HB5.out.size
  have hgl := HNEW.out.hi
  clear ho6 hi6 hb
  subst e6
  have hcl : w4.heap.size ≤ w5.heap.size := HSZ5.out
  generalize w5.heap.size = C at HO6 HHD hcl hgl
  clear HB5 HNEW HSZ5
  go_wp2
  go_loopw [16] (fun i wr => ∃ m : Nat, m ≤ dn ∧ i = .int .i64 m ∧ Hid (HdSt wr w4.heap.size C g5 D) ∧ Hid (Ints wr C (.slice q6 pn c6) ps) ∧ Hid (Below w4.heap.size w4 wr)) (fun i _ => dn - (intOf i).toNat)
  case atStart => exact ⟨0, Nat.zero_le _, rfl, HHD, HO6, HB6⟩
  case round =>
    clear HHD HO6 HB6
    obtain ⟨m, hm, rfl, hhd, ho, hbe⟩ := hrel
    by_cases hlt : m < dn
    · have hml : m < D.length := by rw [HDN.out]; exact hlt
      obtain ⟨q, c, hc, _⟩ := hhd.out.hd m hml
      obtain ⟨yn, hyn⟩ : ∃ yn, (D.getD m []).length = yn := ⟨_, rfl⟩
      have hyb := HDB.out m hml
      rw [hyn] at hc hyb
      have HYN := Lib.hid hyn
      clear hyn hml
      go_wp2
      go_loopw [24] (fun i wx => ∃ t : Nat, t ≤ yn ∧ i = .int .i64 t ∧ Hid (HdSt wx w4.heap.size C g5 D) ∧ Hid (Ints wx C (.slice q6 pn c6) ps) ∧ Hid (Below w4.heap.size w4 wx)) (fun i _ => yn - (intOf i).toNat)
      case atStart => exact ⟨0, Nat.zero_le _, rfl, hhd, ho, hbe⟩
      case round =>
        clear hhd ho hbe hc
        obtain ⟨t, ht, rfl, hhd, ho, hbe⟩ := hrel
        by_cases hlt4 : t < yn
        · obtain ⟨q, c, hc, hin⟩ := hhd.out.hd m (by rw [HDN.out]; exact hlt)
          obtain ⟨b, off, z, rfl, h1, h2, h3, h4, h5⟩ := hin t (by rw [HYN.out]; exact hlt4)
          rw [HYN.out] at hc
          have HH2 := Lib.hid (hhd.out.put (o0 := off + t) h3 (-1))
          have HO2 : Hid (Ints (wr.setCell ⟨b, off + t, none⟩ (.int .i64 (-1))) C (.slice q6 pn c6) ps) := World.ownsRow.kept ho.out (grownBy_store _ b (off + t) _) (by
            cases hv : Value.ownBlock (.slice q6 pn c6) with
            | none => simp
            | some b' => have := (World.ownsRow.lt ho.out b' hv).1; simp; omega)
          have HB2 := Lib.hid (hbe.out.setCell (p := ⟨b, off + t, none⟩) h1 (.int .i64 (-1)))
          clear hin hhd ho hbe
          go_wp2
          go_roundw
          case rel => exact ⟨t + 1, by omega, by go_num, HH2, HO2, HB2⟩
          case measure => simp [intOf]; omega
        · obtain rfl : t = yn := by omega
          go_wp2
          go_roundw
          case rel => exact ⟨m + 1, by omega, by go_num, hhd, ho, hbe⟩
          case measure => simp [intOf]; omega
    · obtain rfl : m = dn := by omega
      obtain ⟨q7, c7, e7, hi7⟩ := ho.out.inn
      rw [HPN.out] at e7
      injection e7 with e7 _ e8
      subst e7; subst e8
      have HI7 := Lib.hid hi7
      replace HPI := Lib.hid (HPI.out.below hbe.out)
      replace HZ := Lib.hid (HZ.out.below hbe.out)
      replace HB := Lib.hid (HB.out.trans (hbe.out.mono HB.out.size))
      clear hi7 hhd ho hbe
      go_wp2_with fail
      refine (awake12_any _).mono ?_
      rintro e wa ⟨rfl, hb⟩
      replace HB := Lib.hid (HB.out.trans (hb.mono HB.out.size))
      replace HPI := Lib.hid (HPI.out.below hb)
      replace HI7 := Lib.hid (HI7.out.below hb)
      replace HZ := Lib.hid (HZ.out.below hb)
      clear hb
      go_wp2_with fail
      refine (kpoints_at a0 len0 cap0 zs ps _ HZ.out HZN hzb HP).mono ?_
      rintro e wb ⟨v4, rfl, ho4, hb⟩
      obtain ⟨pp2, pc2, rfl, hpi2, _⟩ := ints_capL ho4
      rw [HPN.out]
      have HPI2 := Lib.hid hpi2
      replace HB := Lib.hid (HB.out.trans (hb.mono HB.out.size))
      replace HPI := Lib.hid (HPI.out.below hb)
      replace HI7 := Lib.hid (HI7.out.below hb)
      clear hb ho4 hpi2
      go_wp2_with fail
      refine (sameI_at pp pp2 pc pc2 _ _ ps _ HPI.out HPI2.out (by rw [HPN.out]; unfold maxLen; omega) HPN.out HPN.out).mono ?_
      rintro e wc ⟨rfl, hb⟩
      replace HB := Lib.hid (HB.out.trans (hb.mono HB.out.size))
      replace HPI := Lib.hid (HPI.out.below hb)
      replace HI7 := Lib.hid (HI7.out.below hb)
      clear hb
      go_wp2_with fail
      refine (sameI_at q6 pp c6 pc _ _ ps _ HI7.out HPI.out (by rw [HPN.out]; unfold maxLen; omega) HPN.out HPN.out).mono ?_
      rintro e wd ⟨rfl, hb⟩
      replace HB := Lib.hid (HB.out.trans (hb.mono HB.out.size))
      clear hb
      go_wp2
      go_ret
      exact ⟨rfl, HB.out⟩

end Go.Proofs.Ytebhliepncmghaa.splitKeepsW
