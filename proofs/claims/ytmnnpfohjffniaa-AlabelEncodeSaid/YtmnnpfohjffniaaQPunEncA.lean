/-
  puny: Encode.
-/
import Derived.Test.YtmnnpfohjffniaaPkZZC
set_option linter.unusedSimpArgs false
set_option linter.unusedVariables false
namespace Go.Proofs.Ytmnnpfohjffniaa
open Go.RowKit Go.Sort
set_option linter.unusedVariables false

theorem own_ne {gb gs n c : Nat} (h : gb < gs) : (Value.slice (some ⟨gb, 0, none⟩) n c).ownBlock ≠ some gs := by
  intro e
  have : gb = gs := by simpa [Value.ownBlock] using e
  omega

/-- What is kept between two numbers: the state, the code, the places. -/
structure EncSt (w0 w : World) (gs : Nat) (p : Option Addr) (ls : List Int) (vv : Value) (zs : List Int) (n : Int) (i P b : Nat) (later : Bool) : Prop where
  st : StB w gs n i P b later
  own : OwnB w w0.heap.size vv zs
  idx : IntsIn w p ls
  bel : Below w0.heap.size w0 w
  gs0 : w0.heap.size ≤ gs
  gsl : gs < w.heap.size
  off : vv.ownBlock ≠ some gs
  far : ∀ b off, p = some ⟨b, off, none⟩ → vv.ownBlock ≠ some b ∧ b ≠ gs ∧ b < w.heap.size

theorem EncSt.drewN {w0 w : World} {gs : Nat} {p : Option Addr} {ls : List Int} {vv : Value} {zs : List Int} {n : Int} {i P b : Nat} {later : Bool} (h : EncSt w0 w gs p ls vv zs n i P b later) (m : Nat) : EncSt w0 (w.drewN m) gs p ls vv zs n i P b later :=
  ⟨h.st.drewN m, h.own.kept (grownBy_drewN (pun_refl w none) m) h.own.block, in_drewN h.idx m, below_drewN h.bel m, h.gs0, h.gsl, h.off, h.far⟩

theorem EncSt.app {w0 w w' : World} {gs : Nat} {p : Option Addr} {ls : List Int} {vv v' : Value} {zs ys : List Int} {n : Int} {i P b : Nat} {later : Bool} (h : EncSt w0 w gs p ls vv zs n i P b later)
    (ho : OwnB w' w0.heap.size v' ys) (hg : w.grownBy w' vv.ownBlock) (hf : ∀ k, k < w.heap.size → vv.ownBlock ≠ some k → v'.ownBlock ≠ some k) : EncSt w0 w' gs p ls v' ys n i P b later where
  st := F5.grown h.st hg h.off
  own := ho
  idx := by
    intro k hk
    obtain ⟨b, off, e, hc⟩ := h.idx k hk
    exact ⟨b, off, e, hg.cell hc (Ne.symm (h.far b off e).1)⟩
  bel := h.bel.grown hg h.bel.size (fun j hj => h.own.base j hj)
  gs0 := h.gs0
  gsl := Nat.lt_of_lt_of_le h.gsl hg.size
  off := hf gs h.gsl h.off
  far b off e := by
    obtain ⟨a1, a2, a3⟩ := h.far b off e
    exact ⟨hf b a3 a1, a2, Nat.lt_of_lt_of_le a3 hg.size⟩

theorem EncSt.put {w0 w w' : World} {gs : Nat} {p : Option Addr} {ls : List Int} {vv : Value} {zs : List Int} {n n' : Int} {i P b i' P' b' : Nat} {later l' : Bool} (h : EncSt w0 w gs p ls vv zs n i P b later)
    (hs : StB w' gs n' i' P' b' l') (hg : w.grownBy w' (some gs)) : EncSt w0 w' gs p ls vv zs n' i' P' b' l' where
  st := hs
  own := h.own.kept hg h.off
  idx := h.idx.grown hg (fun b off e => (h.far b off e).2.1)
  bel := h.bel.grown hg h.bel.size (by rintro j ⟨⟩; exact h.gs0)
  gs0 := h.gs0
  gsl := Nat.lt_of_lt_of_le h.gsl hg.size
  off := h.off
  far b off e := by
    obtain ⟨a1, a2, a3⟩ := h.far b off e
    exact ⟨a1, a2, Nat.lt_of_lt_of_le a3 hg.size⟩

/-- A string and an error. -/
def StrErr (X : ByteArray) (er : Int) (w : World) (e : Ending) (w' : World) : Prop := e = .returned (.tuple #[.string X, .int .i64 er]) ∧ Below w.heap.size w w'

theorem encP_long {l : List Int} (h : 256 < l.length) : encP l = ([], 7) := by unfold encP; rw [if_pos h]
theorem encP_bad {l : List Int} (h : l.length ≤ 256) (h2 : l.all scpB = false) : encP l = ([], 3) := by unfold encP; rw [if_neg (by omega), if_pos h2]
theorem all_take_bad {l : List Int} {k : Nat} (hk : k < l.length) (h : scpB (l.getD k 0) = false) : l.all scpB = false := by
  rw [List.all_eq_false]
  exact ⟨l.getD k 0, by simp [hk], by rw [h]; simp⟩
theorem all_take_snoc {l : List Int} {k : Nat} (hk : k < l.length) (h : (l.take k).all scpB = true) (h2 : scpB (l.getD k 0) = true) : (l.take (k + 1)).all scpB = true := by
  rw [take_snoc_int l k hk, List.all_append, h]; simp only [List.all_cons, List.all_nil, h2]; rfl

theorem strOf_nil : strOfNums [] = ByteArray.mk #[] := rfl

set_option maxRecDepth 100000 in
set_option maxHeartbeats 8000000 in
theorem encode_at (p : Option Addr) (n cap : Nat) (l X : List Int) (er : Int) (S : ByteArray) (w : World) (hin : IntsIn w p l) (hn : Hid (l.length = n)) (hcap : n ≤ cap) (hn2 : n ≤ 17592186043904) (hE : Hid (encP l = (X, er))) (hS : Hid (strOfNums X = S)) :
    Calls Try.prog 24 #[.slice p n cap] w (StrErr S er w) := by
  have HI := Lib.hid hin
  clear hin
  by_cases hbig : 256 < n
  · have hE' := hE.out
    rw [encP_long (by rw [hn.out]; exact hbig)] at hE'
    injection hE' with e1 e2
    subst e1; subst e2
    have HS : Hid (S = ByteArray.mk #[]) := hS.out.symm
    clear hE hS
    go_enter Try.func24, Try.ntmps24
    go_wp2
    go_ret2
    exact ⟨by rw [HS.out]; rfl, Below.refl _ _⟩
  have hnb : n ≤ 256 := by omega
  clear hbig
  go_enter Try.func24, Try.ntmps24
  go_wp2
  go_loopw [16] (fun u wr => ∃ k : Nat, u = .int .i64 k ∧ k ≤ n ∧ Hid ((l.take k).all scpB = true) ∧ wr = w) (fun u _ => n - (intOf u).toNat)
  case atStart => exact ⟨0, rfl, Nat.zero_le _, rfl, rfl⟩
  case round =>
    obtain ⟨k, rfl, hk, ha, rfl⟩ := hrel
    by_cases hlt : k < n
    · have hkl : k < l.length := by rw [hn.out]; exact hlt
      obtain ⟨b, off, rfl, hck⟩ := HI.out k hkl
      obtain ⟨x, hx⟩ : ∃ x, l.getD k 0 = x := ⟨_, rfl⟩
      rw [hx] at hck
      cases hsc : scpB x with
      | true =>
        have HA : Hid ((l.take (k + 1)).all scpB = true) := all_take_snoc hkl ha.out (by rw [hx]; exact hsc)
        have HSC := Lib.hid hsc
        clear hx hkl hsc ha
        go_wp2_with fail
        refine (len_yes x _ HSC.out).mono ?_
        rintro ex w1 ⟨⟨m, hm1, hm4, rfl⟩, rfl⟩
        have d0 : ((m : Int) == 0) = false := by simp; omega
        go_wp2
        go_roundw
        case rel => exact ⟨k + 1, by go_num, by omega, HA, by first | rfl | trivial⟩
        case measure => simp [intOf]; omega
      | false =>
        have hE' := hE.out
        rw [encP_bad (by rw [hn.out]; exact hnb) (all_take_bad hkl (by rw [hx]; exact hsc))] at hE'
        injection hE' with e1 e2
        subst e1; subst e2
        have HS : Hid (S = ByteArray.mk #[]) := hS.out.symm
        have HSC := Lib.hid hsc
        clear hx hkl hsc ha hE hS
        go_wp2_with (go_at_call 30; refine (len_no x _ HSC.out).mono ?_; rintro ex w1 ⟨rfl, rfl⟩)
        go_ret2
        exact ⟨by rw [HS.out]; rfl, Below.refl _ _⟩
    · obtain rfl : k = n := by omega
      have HA : Hid (l.all scpB = true) := by have := ha.out; rwa [List.take_of_length_le (by rw [hn.out]; exact Nat.le_refl _)] at this
      have HAS : Hid (∀ c ∈ l, scpB c = true) := List.all_eq_true.1 HA.out
      obtain ⟨PB, hPB⟩ : ∃ PB, basS l = PB := ⟨_, rfl⟩
      have hPBl : PB.length ≤ k := by rw [← hPB, ← hn.out]; exact placed_len _ _
      have HPB := Lib.hid hPB
      clear ha hPB
      go_wp2_with fail
      refine (basic_at p k cap l PB _ HI.out hn (by omega) HAS HPB).mono ?_
      rintro ex w1 ⟨v1, rfl, ho1, hb1⟩
      obtain ⟨gb, cb, cur, fz, rfl, hgb, hgc, _⟩ := id ho1
      have hgbl := (Array.getElem?_eq_some_iff.1 hgc).1
      have HO1 := Lib.hid ho1
      have HB1 := Lib.hid hb1
      have HGB := Lib.hid hgb
      have HGL := Lib.hid hgbl
      clear ho1 hb1 hgb hgbl hgc
      go_wp2_with fail
      refine (start_at PB.length _).mono ?_
      rintro ex w2 ⟨rfl, hb2⟩
      have HO2 := Lib.hid (HO1.out.below hb2)
      have HB2 := Lib.hid (HB1.out.trans (hb2.mono HB1.out.size))
      have HGL2 := Lib.hid (Nat.lt_of_lt_of_le HGL.out hb2.size)
      clear hb2 HO1 HB1 HGL
      have HNEW := Lib.hid (F5.new w2 (.int .i64 128) (.int .i64 0) (.int .i64 PB.length) (.int .i64 72) (.bool false) 51)
      have HO3 := Lib.hid (HO2.out.alloc (.cells #[.int .i64 128, .int .i64 0, .int .i64 PB.length, .int .i64 72, .bool false] 51))
      have HB3 := Lib.hid (HB2.out.alloc HB2.out.size (.cells #[.int .i64 128, .int .i64 0, .int .i64 PB.length, .int .i64 72, .bool false] 51))
      have HZ3 : Hid ((w2.alloc (.cells #[.int .i64 128, .int .i64 0, .int .i64 PB.length, .int .i64 72, .bool false] 51)).heap.size = w2.heap.size + 1) := by unfold Hid; simp
      obtain ⟨gs, hgs⟩ : ∃ gs, w2.heap.size = gs := ⟨_, rfl⟩
      have HGS := Lib.hid hgs
      have HGS0 : Hid (wr.heap.size ≤ gs) := by unfold Hid; rw [← hgs]; exact HB2.out.size
      have HGL3 : Hid (gb < gs) := by unfold Hid; rw [← hgs]; exact HGL2.out
      clear HO2 HB2 HGL2
      go_upto_if 31 with (fail)
      generalize w2.alloc (.cells #[.int .i64 128, .int .i64 0, .int .i64 PB.length, .int .i64 72, .bool false] 51) = W3 at HNEW HO3 HB3 HZ3 ⊢
      rw [hgs] at HNEW HZ3
      clear hgs
      go_cut [6] (fun c wx => Hid (OwnB wx wr.heap.size c (frontS PB)) ∧ Hid (StB wx gs 128 0 PB.length 72 false) ∧ Hid (Below wr.heap.size wr wx) ∧ Hid (c.ownBlock ≠ some gs) ∧ Hid (gs < wx.heap.size))
      case first =>
        by_cases h0 : PB.length = 0
        · have hd : decide (0 < PB.length) = false := decide_eq_false (by omega)
          have hd2 : ¬ 0 < PB.length := by omega
          have HF : Hid (frontS PB = PB) := by
            unfold Hid frontS; rw [if_pos (List.eq_nil_of_length_eq_zero h0)]; simp
          go_wp2
          go_meet
          exact ⟨by rw [HF.out]; exact HO3, HNEW, HB3, own_ne HGL3.out, by have := HZ3.out; unfold Hid; omega⟩
        · have hd : 0 < PB.length := by omega
          have HF : Hid (frontS PB = PB ++ [45]) := by
            unfold Hid frontS; rw [if_neg (fun e => h0 (by rw [e]; rfl))]
          have HW3 := Lib.hid HB3.out.size
          go_wp2_with (at_builtin; refine wpList_append_byte rfl _ _ rfl wr.heap.size _ PB rfl HO3.out 45 1 _ rfl rfl (by omega) HW3.out ?_; intro v4 w4 ho4 hg4 hf4)
          have HO4 : Hid (OwnB w4 wr.heap.size v4 (frontS PB)) := by unfold Hid; rw [HF.out]; exact ho4
          have HOF : Hid (v4.ownBlock ≠ some gs) := hf4 gs (by have := HZ3.out; omega) (own_ne HGL3.out)
          have HST : Hid (StB w4 gs 128 0 PB.length 72 false) := F5.grown HNEW.out hg4 (own_ne HGL3.out)
          have HBE : Hid (Below wr.heap.size wr w4) := HB3.out.grown hg4 HB3.out.size (fun j hj => HO3.out.base j hj)
          have HGZ : Hid (gs < w4.heap.size) := Nat.lt_of_lt_of_le (by have := HZ3.out; omega) hg4.size
          clear ho4 hg4 hf4
          go_wp2
          go_meet
          exact ⟨HO4, HST, HBE, HOF, HGZ⟩
      case rest =>
        obtain ⟨ho, hst, hbe, hof, hgz⟩ := hcut
        go_wp2_with fail
        refine (others_at p k cap l _ (HI.out.below hbe.out) hn (by omega)).mono ?_
        rintro ex w5 ⟨I, v5, rfl, hid, hi5, hb5⟩
        obtain ⟨pI, cI, rfl, hin5, hcI, hfar⟩ := hi5.cap
        have hIl : (I.map (fun a : Nat => (a : Int))).length = I.length := by simp
        rw [hIl]
        obtain ⟨he1, hgood, hlen⟩ := encP_idx l I HA.out (by rw [hn.out]; exact hnb) hid.1 hid.2
        have hXe : X = frontS PB ++ encI l I PB.length 128 0 72 true ∧ er = 0 := by
          have := hE.out
          rw [he1, HPB.out] at this
          injection this with a1 a2
          exact ⟨a1.symm, a2.symm⟩
        obtain ⟨hX, rfl⟩ := hXe
        rw [HPB.out] at hgood hlen
        have HFAR := Lib.hid hfar
        have HX : Hid (frontS PB ++ encI l (I.drop 0) PB.length 128 0 72 (!false) = X) := by unfold Hid; rw [hX]; rfl
        have HGOOD : Hid (GoodI l (I.drop 0) PB.length 128 0) := hgood
        have hIk : PB.length + I.length = k := by have := hn.out; omega
        have HST0 : Hid (EncSt wr w5 gs pI (I.map (fun a : Nat => (a : Int))) u6 (frontS PB) 128 0 PB.length 72 false) := by
          refine ⟨F5.grown hst.out (below_grownBy hb5 none) (by simp), ho.out.below hb5, hin5, hbe.out.trans (hb5.mono hbe.out.size), HGS0.out, Nat.lt_of_lt_of_le hgz.out hb5.size, hof.out, fun b off e => ?_⟩
          obtain ⟨f1, f2⟩ := hfar b off e
          have hgz2 := hgz.out
          refine ⟨fun e2 => ?_, by omega, f2⟩
          have := (ho.out.lt b e2).2
          omega
        have HINS := Lib.hid hi5
        clear hi5 hin5 hfar he1 hgood hE hX hb5 hst ho hbe hof hgz hid HNEW HO3 HB3 HZ3 HGL3 hIl
        go_wp2
        go_loopw [6, 38] (fun vv u wx => ∃ (j i b : Nat) (n : Int) (zs : List Int) (later : Bool), u = .int .i64 j ∧ j ≤ I.length ∧ 0 ≤ n ∧ n ≤ 1114111 ∧ i ≤ 4096 ∧ b ≤ 70368744177664 ∧ zs.length ≤ PB.length + 1 + 100000 * j ∧ Hid (EncSt wr wx gs pI (I.map (fun a : Nat => (a : Int))) vv zs n i (PB.length + j) b later) ∧ Hid (zs ++ encI l (I.drop j) (PB.length + j) n i b (!later) = X) ∧ Hid (GoodI l (I.drop j) (PB.length + j) n i)) (fun _ u _ => I.length - (intOf u).toNat)
        case atStart => exact ⟨0, 0, 72, 128, frontS PB, false, rfl, Nat.zero_le _, by omega, by omega, by omega, by omega, by unfold frontS; split <;> simp, HST0, HX, HGOOD⟩
        case round =>
          obtain ⟨j, i, b, n, zs, later, rfl, hj, hn0, hn1, hi, hb, hzl, hst, hx, hgd⟩ := hrel
          by_cases hlt : j < I.length
          · obtain ⟨a, ha⟩ : ∃ a, I[j] = a := ⟨_, rfl⟩
            have hdrop : I.drop j = a :: I.drop (j + 1) := by rw [List.drop_eq_getElem_cons hlt, ha]
            have HG := hgd.out
            rw [hdrop] at HG
            obtain ⟨hal, hnx, hplp, hs0, hs1, hg2⟩ := HG
            obtain ⟨V, hV⟩ : ∃ V : Nat, stepI l (PB.length + j) n i a = V := ⟨(stepI l (PB.length + j) n i a).toNat, by omega⟩
            rw [hV] at hs0 hs1
            obtain ⟨PL, hPL⟩ : ∃ PL, pbL l a = PL := ⟨_, rfl⟩
            have hPLa : PL ≤ a := by rw [← hPL]; exact pbL_le l a
            obtain ⟨x, hx0⟩ : ∃ x, l.getD a 0 = x := ⟨_, rfl⟩
            have hxs := scp_bd (HAS.out x (by rw [← hx0]; simp [hal]))
            obtain ⟨A, hA⟩ : ∃ A, adaptN V (PB.length + j + 1) (!later) = A := ⟨_, rfl⟩
            have hAb : A ≤ 2199023255588 := by rw [← hA]; exact adaptN_bd V _ _ (by omega)
            obtain ⟨YS, hYS⟩ : ∃ YS, (pnumS b 0 V).map pdigB = YS := ⟨_, rfl⟩
            have hYl : YS.length ≤ 11 := by
              rw [← hYS, List.length_map]
              have := pnumS_len b 10 0 V (by omega)
              omega
            have HX2 : Hid ((zs ++ YS) ++ encI l (I.drop (j + 1)) (PB.length + (j + 1)) x (PL + 1) A (!true) = X) := by
              unfold Hid
              rw [← hx.out, hdrop, encI, hV, Int.toNat_natCast, hYS, hA, hPL, hx0, List.append_assoc]
              rfl
            have HGD2 : Hid (GoodI l (I.drop (j + 1)) (PB.length + (j + 1)) x (PL + 1)) := by
              unfold Hid; rw [hPL, hx0] at hg2; exact hg2
            have HSV : Hid ((x - n) * (((PB.length + j : Nat) : Int) + 1) + (PL : Int) - (i : Int) = (V : Int)) := by
              unfold Hid; rw [← hV, stepI, hx0, hPL]
            have hak : a < k := by have := hn.out; omega
            obtain ⟨b1, o1, rfl, c1⟩ := (HI.out.below hst.out.bel) a (by rw [hn.out]; exact hak)
            obtain ⟨b2, o2, e2, c2⟩ := hst.out.idx j (by simpa using hlt)
            have hjm : (I.map (fun a : Nat => (a : Int))).getD j 0 = (a : Int) := by simp [List.getD, List.getElem?_eq_getElem hlt, ha]
            rw [hjm] at c2
            rw [hx0] at c1
            subst e2
            rw [hx0] at hnx
            rw [hPL] at hplp
            have HPL := Lib.hid hPL
            have HA2 := Lib.hid hA
            have HYS : Hid (zs ++ (pnumS b 0 V).map pdigB = zs ++ YS) := by unfold Hid; rw [hYS]
            obtain ⟨PN, hPN⟩ : ∃ PN, PB.length + j = PN := ⟨_, rfl⟩
            have hPN1 : PN + 1 ≤ 4096 := by omega
            have hPNj : PB.length + (j + 1) = PN + 1 := by omega
            rw [hPN] at hst HSV HA2 hplp
            rw [hPNj] at HX2 HGD2
            obtain ⟨xs0, xs1⟩ := hxs
            clear ha hdrop hal hs0 hV hPL hx0 hA hYS hx hgd hg2 hjm hPN
            go_wp2_with fail
            go_quiet (first
              | (go_at_call 35; exact Calls.quiet_of (placedb_at _ k cap a PL l _ (in_drewN (HI.out.below hst.out.bel) _) hn (by omega) hcap hak HPL))
              | (go_at_call 34; exact Calls.quiet_of (steps_at gs n i PN b later x PL V _ (hst.out.st.drewN _) (by omega) hn0 hn1 xs0 xs1 hi (by omega) HSV)))
            have HST4 := Lib.hid (hst.out.drewN nq)
            clear hst c1 c2
            generalize World.drewN _ nq = W4 at HST4 ⊢
            have c3 := HST4.out.st.2.2.2.1
            go_wp2_with fail
            refine (appnum_at _ _ zs (zs ++ YS) V b _ HST4.out.bel.size HST4.out.own (by omega) (by omega) hb HYS).mono ?_
            rintro ex w6 ⟨v6, rfl, ho6, hg6, hf6⟩
            have HST6 := Lib.hid (HST4.out.app ho6 hg6 hf6)
            clear ho6 hg6 hf6 HST4 c3
            go_wp2_with fail
            obtain ⟨C, hC⟩ : ∃ C, (V + i) / (PN + 1) = C := ⟨_, rfl⟩
            obtain ⟨J, hJ⟩ : ∃ J, (V + i) % (PN + 1) = J := ⟨_, rfl⟩
            have HCJ : Hid (n + (C : Int) = x ∧ J = PL) := by
              unfold Hid; rw [← hC, ← hJ]; exact step_split HSV.out hnx hplp
            refine (put_at gs n i PN b later V C J A _ HST6.out.st hPN1 hn0 (by omega) hi (by omega) hC hJ HA2).mono ?_
            rintro ex w7 ⟨rfl, hs7, hg7⟩
            obtain ⟨e1, e2⟩ := HCJ.out
            rw [e1, e2] at hs7
            have HST7 := Lib.hid (HST6.out.put hs7 hg7)
            clear hs7 hg7 hC hJ HCJ e1 e2 HST6
            go_wp2
            go_roundw
            case rel => exact ⟨j + 1, PL + 1, A, x, zs ++ YS, true, by go_num, by omega, xs0, xs1, by omega, by omega, by rw [List.length_append]; omega, by rw [hPNj]; exact HST7, by rw [hPNj]; exact HX2, by rw [hPNj]; exact HGD2⟩
            case measure => simp [intOf]; omega
          · obtain rfl : j = I.length := by omega
            have HXE : Hid (zs = X) := by
              have := hx.out
              rw [List.drop_of_length_le (Nat.le_refl _), encI, List.append_nil] at this
              exact this
            have hcv := conv_ownB hst.out.own
            rw [HXE.out, hS.out] at hcv
            have HB := Lib.hid hst.out.bel
            clear hst hx hgd
            go_wp2
            go_ret2
            exact ⟨rfl, HB.out⟩

end Go.Proofs.Ytmnnpfohjffniaa
