/-
  The walk of StreamNew (genSW.py).
-/
import Derived.Test.YtfmfifmmaihodaaGreatDoorSvPkZX
import Derived.Test.YtfmfifmmaihodaaGreatDoorSvPkF
import Derived.Test.YtfmfifmmaihodaaGreatDoorSvPkV
import Derived.Deep.RegionHeld3
import Derived.Deep.DeepCutAuto
set_option linter.unusedSimpArgs false
set_option linter.unusedVariables false
namespace Go.Proofs.YtfmfifmmaihodaaGreatDoor
open Go.RowKit
set_option linter.unusedVariables false

theorem made_few9 {T : Tb} (h : Made T) : Few 256 T := few_of_r1 (check_rules h.check).1

/-- The made tables, the changed ones, and the given ones. -/
structure Thr (w0 : World) (g : Nat) (x : TV) (T : Tb) (h : Nat) (x2 : TV) (T2 : Tb) (y : TV) (U : Tb) (w : World) : Prop where
  l : LEnv w0 g x T w
  o : LEnv w0 h x2 T2 w
  r : Env w0 y U w
theorem Thr.step {w0 w w' : World} {g h : Nat} {x x2 y : TV} {T T2 U : Tb} (e : Thr w0 g x T h x2 T2 y U w) (hb : Below w.heap.size w w') : Thr w0 g x T h x2 T2 y U w' := ⟨e.l.step hb, e.o.step hb, e.r.step hb⟩

/-- What a call of New leaves, whatever it is called with. -/
def NewAny (E : Int) (w : World) (e : Ending) (w' : World) : Prop :=
  ∃ pa, e = .returned (.tuple #[.pointer pa, .int .i64 E]) ∧ ((E = 0 ∧ ∃ s : Nat, pa = some ⟨s, 0, none⟩) ∨ (E ≠ 0 ∧ pa = none)) ∧ Below w.heap.size w w'
theorem new_any (x : TV) (T : Tb) (z E : Int) (w : World) (hx : TabV w x T) (hr : Rsv w) (hE : Hid (newE T z = E)) :
    Calls Tryz.prog 11 #[x.agg, .int .i64 z] w (NewAny E w) := by
  by_cases h0 : E = 0
  · subst h0
    obtain ⟨h1, h2, h3⟩ := newE_ok hE.out
    obtain ⟨m, rfl⟩ : ∃ m : Nat, z = m := ⟨z.toNat, by omega⟩
    refine (new_at x T m w hx hr hE).mono ?_
    rintro e w' ⟨s, y, rfl, _, _, _, hb⟩
    exact ⟨_, rfl, .inl ⟨rfl, s, rfl⟩, hb⟩
  · refine (new_no x T z E w hx hr hE h0).mono ?_
    rintro e w' ⟨rfl, hb⟩
    exact ⟨_, rfl, .inr ⟨h0, rfl⟩, hb⟩
theorem rnew_any (x : TV) (T : Tb) (z E : Int) (w : World) (hx : TabV w x T) (hcap : CapOf x) (hE : Hid (newE T z = E)) :
    Calls Tryz.prog 12 #[x.agg, .int .i64 z] w (NewAny E w) := by
  by_cases h0 : E = 0
  · subst h0
    obtain ⟨h1, h2, h3⟩ := newE_ok hE.out
    obtain ⟨m, rfl⟩ : ∃ m : Nat, z = m := ⟨z.toNat, by omega⟩
    refine (rnew_at 0 w.heap.size x T m w (TabP.of_tab hx (fun k hk => ⟨Nat.zero_le _, hk⟩)) (Nat.le_refl _) hcap hE).mono ?_
    rintro e w' ⟨s, rfl, _, _, _, hb⟩
    exact ⟨_, rfl, .inl ⟨rfl, s, rfl⟩, hb⟩
  · refine (rnew_no x T z E w hx hcap hE h0).mono ?_
    rintro e w' ⟨rfl, hb⟩
    exact ⟨_, rfl, .inr ⟨h0, rfl⟩, hb⟩

set_option maxRecDepth 100000 in
set_option maxHeartbeats 8000000 in
theorem streamNew_walk (p0 : Option Addr) (cap0 : Nat) (zs0 : List Int) (n1 : Int) (n2 : Int) (n3 : Int) (n4 : Int) (n5 : Int) (y : TV) (U : Tb) (w : World) (hin0 : IntsIn w p0 zs0) (hl0 : zs0.length ≤ 17592186043904) (hy : TabV w y U) (hyc : ∀ p n c, y.a9 = .slice p n c → n ≤ c) (hr : Rsv w) :
    Calls Tryz.prog 3 #[.slice p0 zs0.length cap0, .int .i64 n1, .int .i64 n2, .int .i64 n3, .int .i64 n4, .int .i64 n5, y.agg] w (Gives (.bool true) w) := by
  have HI0 := Lib.hid hin0
  have HL0 := Lib.hid hl0
  have HR := Lib.hid hr
  clear hin0 hl0 hr
  have HYC : Hid (CapOf y) := hyc
  have HY := Lib.hid (Env.new hy)
  clear hy hyc
  simp only [TV.agg]
  go_enter Tryz.func3, Tryz.ntmps3
  go_wp2_with fail
  refine (tables_any p0 cap0 zs0 _ (HI0.out.below HY.out.bel) HL0.out).mono ?_
  rintro e w1 ⟨⟨a0, a1, a2, a3, a4, a5, a6, a7, a8, a9, a10, a11⟩, T, rfl, htv, hm, hcap1, hb1⟩
  obtain ⟨pa0, na0, qa0, hsl0⟩ : Slc a0 := htv.cat.slc
  subst hsl0
  obtain ⟨pa1, na1, qa1, hsl1⟩ : Slc a1 := htv.cls.slc
  subst hsl1
  obtain ⟨pa2, na2, qa2, hsl2⟩ : Slc a2 := htv.joi.slc
  subst hsl2
  obtain ⟨pa3, na3, qa3, hsl3⟩ : Slc a3 := htv.bid.slc
  subst hsl3
  obtain ⟨pa4, na4, qa4, hsl4⟩ : Slc a4 := htv.scr.slc
  subst hsl4
  obtain ⟨pa5, na5, qa5, hsl5⟩ : Slc a5 := htv.sta.slc
  subst hsl5
  obtain ⟨pa6, na6, qa6, hsl6⟩ : Slc a6 := htv.ign.slc
  subst hsl6
  obtain ⟨pa7, na7, qa7, hsl7⟩ : Slc a7 := htv.ext.slc
  subst hsl7
  obtain ⟨pa8, na8, qa8, hsl8⟩ : Slc a8 := htv.map.slc
  subst hsl8
  obtain ⟨pa9, na9, qa9, hsl9⟩ : Slc a9 := htv.dec.slc
  subst hsl9
  obtain ⟨pa10, na10, qa10, hsl10⟩ : Slc a10 := htv.exc.slc
  subst hsl10
  obtain ⟨pa11, na11, qa11, hsl11⟩ : Slc a11 := htv.pro.slc
  subst hsl11
  have hba1 : Below w1.heap.size w1 (w1.alloc (.cells (tabCells ⟨.slice pa0 na0 qa0, .slice pa1 na1 qa1, .slice pa2 na2 qa2, .slice pa3 na3 qa3, .slice pa4 na4 qa4, .slice pa5 na5 qa5, .slice pa6 na6 qa6, .slice pa7 na7 qa7, .slice pa8 na8 qa8, .slice pa9 na9 qa9, .slice pa10 na10 qa10, .slice pa11 na11 qa11⟩) 26)) := (Below.refl _ _).alloc (Nat.le_refl _) _
  have HT1 : Hid (TabV (w1.alloc (.cells (tabCells ⟨.slice pa0 na0 qa0, .slice pa1 na1 qa1, .slice pa2 na2 qa2, .slice pa3 na3 qa3, .slice pa4 na4 qa4, .slice pa5 na5 qa5, .slice pa6 na6 qa6, .slice pa7 na7 qa7, .slice pa8 na8 qa8, .slice pa9 na9 qa9, .slice pa10 na10 qa10, .slice pa11 na11 qa11⟩) 26)) ⟨.slice pa0 na0 qa0, .slice pa1 na1 qa1, .slice pa2 na2 qa2, .slice pa3 na3 qa3, .slice pa4 na4 qa4, .slice pa5 na5 qa5, .slice pa6 na6 qa6, .slice pa7 na7 qa7, .slice pa8 na8 qa8, .slice pa9 na9 qa9, .slice pa10 na10 qa10, .slice pa11 na11 qa11⟩ T) := htv.below hba1
  have HX1 : Hid (BoxT (w1.alloc (.cells (tabCells ⟨.slice pa0 na0 qa0, .slice pa1 na1 qa1, .slice pa2 na2 qa2, .slice pa3 na3 qa3, .slice pa4 na4 qa4, .slice pa5 na5 qa5, .slice pa6 na6 qa6, .slice pa7 na7 qa7, .slice pa8 na8 qa8, .slice pa9 na9 qa9, .slice pa10 na10 qa10, .slice pa11 na11 qa11⟩) 26)) w1.heap.size ⟨.slice pa0 na0 qa0, .slice pa1 na1 qa1, .slice pa2 na2 qa2, .slice pa3 na3 qa3, .slice pa4 na4 qa4, .slice pa5 na5 qa5, .slice pa6 na6 qa6, .slice pa7 na7 qa7, .slice pa8 na8 qa8, .slice pa9 na9 qa9, .slice pa10 na10 qa10, .slice pa11 na11 qa11⟩) := BoxT.new _ _ _
  have HY1 : Hid (Env w y U (w1.alloc (.cells (tabCells ⟨.slice pa0 na0 qa0, .slice pa1 na1 qa1, .slice pa2 na2 qa2, .slice pa3 na3 qa3, .slice pa4 na4 qa4, .slice pa5 na5 qa5, .slice pa6 na6 qa6, .slice pa7 na7 qa7, .slice pa8 na8 qa8, .slice pa9 na9 qa9, .slice pa10 na10 qa10, .slice pa11 na11 qa11⟩) 26))) := (HY.out.step hb1).step hba1
  have HB1 : Hid (Below w.heap.size w (w1.alloc (.cells (tabCells ⟨.slice pa0 na0 qa0, .slice pa1 na1 qa1, .slice pa2 na2 qa2, .slice pa3 na3 qa3, .slice pa4 na4 qa4, .slice pa5 na5 qa5, .slice pa6 na6 qa6, .slice pa7 na7 qa7, .slice pa8 na8 qa8, .slice pa9 na9 qa9, .slice pa10 na10 qa10, .slice pa11 na11 qa11⟩) 26))) := HY1.out.bel
  have HM := Lib.hid hm
  have HCAP : Hid (CapOf ⟨.slice pa0 na0 qa0, .slice pa1 na1 qa1, .slice pa2 na2 qa2, .slice pa3 na3 qa3, .slice pa4 na4 qa4, .slice pa5 na5 qa5, .slice pa6 na6 qa6, .slice pa7 na7 qa7, .slice pa8 na8 qa8, .slice pa9 na9 qa9, .slice pa10 na10 qa10, .slice pa11 na11 qa11⟩) := hcap1
  clear htv hm hcap1 hb1 hba1 HY
  simp only [tabCells] at HT1 HX1 HB1 HY1
  go_upto_region 2 with (fail)
  generalize (w1.alloc (.cells #[.slice pa0 na0 qa0, .slice pa1 na1 qa1, .slice pa2 na2 qa2, .slice pa3 na3 qa3, .slice pa4 na4 qa4, .slice pa5 na5 qa5, .slice pa6 na6 qa6, .slice pa7 na7 qa7, .slice pa8 na8 qa8, .slice pa9 na9 qa9, .slice pa10 na10 qa10, .slice pa11 na11 qa11] 26)) = W at HT1 HX1 HB1 HY1 ⊢
  generalize w1.heap.size = g at HX1 ⊢
  generalize (⟨.slice pa0 na0 qa0, .slice pa1 na1 qa1, .slice pa2 na2 qa2, .slice pa3 na3 qa3, .slice pa4 na4 qa4, .slice pa5 na5 qa5, .slice pa6 na6 qa6, .slice pa7 na7 qa7, .slice pa8 na8 qa8, .slice pa9 na9 qa9, .slice pa10 na10 qa10, .slice pa11 na11 qa11⟩ : TV) = x at HT1 HX1 HCAP
  have HE : Hid (LEnv w g x T W) := ⟨HT1.out, HX1.out, HB1.out⟩
  have HF := Lib.hid (made_few9 HM.out)
  clear HT1 HX1 HB1
  obtain ⟨⟨k0, k1, k2, k3, k4, k5⟩, ⟨k6, k7, k8, k9, k10, k11⟩⟩ := HE.out.box.load
  go_wp2_with fail
  refine (other_any x T 256 n1 n2 n3 _ HE.out.tab HF.out (by omega)).mono ?_
  rintro e w2 ⟨⟨b0, b1, b2, b3, b4, b5, b6, b7, b8, b9, b10, b11⟩, T2, rfl, htv, hf2, hc2, hb⟩
  clear k0 k1 k2 k3 k4 k5 k6 k7 k8 k9 k10 k11
  obtain ⟨pb0, nb0, qb0, hsl0⟩ : Slc b0 := htv.cat.slc
  subst hsl0
  obtain ⟨pb1, nb1, qb1, hsl1⟩ : Slc b1 := htv.cls.slc
  subst hsl1
  obtain ⟨pb2, nb2, qb2, hsl2⟩ : Slc b2 := htv.joi.slc
  subst hsl2
  obtain ⟨pb3, nb3, qb3, hsl3⟩ : Slc b3 := htv.bid.slc
  subst hsl3
  obtain ⟨pb4, nb4, qb4, hsl4⟩ : Slc b4 := htv.scr.slc
  subst hsl4
  obtain ⟨pb5, nb5, qb5, hsl5⟩ : Slc b5 := htv.sta.slc
  subst hsl5
  obtain ⟨pb6, nb6, qb6, hsl6⟩ : Slc b6 := htv.ign.slc
  subst hsl6
  obtain ⟨pb7, nb7, qb7, hsl7⟩ : Slc b7 := htv.ext.slc
  subst hsl7
  obtain ⟨pb8, nb8, qb8, hsl8⟩ : Slc b8 := htv.map.slc
  subst hsl8
  obtain ⟨pb9, nb9, qb9, hsl9⟩ : Slc b9 := htv.dec.slc
  subst hsl9
  obtain ⟨pb10, nb10, qb10, hsl10⟩ : Slc b10 := htv.exc.slc
  subst hsl10
  obtain ⟨pb11, nb11, qb11, hsl11⟩ : Slc b11 := htv.pro.slc
  subst hsl11
  have hba1 : Below w2.heap.size w2 (w2.alloc (.cells (tabCells ⟨.slice pb0 nb0 qb0, .slice pb1 nb1 qb1, .slice pb2 nb2 qb2, .slice pb3 nb3 qb3, .slice pb4 nb4 qb4, .slice pb5 nb5 qb5, .slice pb6 nb6 qb6, .slice pb7 nb7 qb7, .slice pb8 nb8 qb8, .slice pb9 nb9 qb9, .slice pb10 nb10 qb10, .slice pb11 nb11 qb11⟩) 26)) := (Below.refl _ _).alloc (Nat.le_refl _) _
  have HT2 : Hid (TabV (w2.alloc (.cells (tabCells ⟨.slice pb0 nb0 qb0, .slice pb1 nb1 qb1, .slice pb2 nb2 qb2, .slice pb3 nb3 qb3, .slice pb4 nb4 qb4, .slice pb5 nb5 qb5, .slice pb6 nb6 qb6, .slice pb7 nb7 qb7, .slice pb8 nb8 qb8, .slice pb9 nb9 qb9, .slice pb10 nb10 qb10, .slice pb11 nb11 qb11⟩) 26)) ⟨.slice pb0 nb0 qb0, .slice pb1 nb1 qb1, .slice pb2 nb2 qb2, .slice pb3 nb3 qb3, .slice pb4 nb4 qb4, .slice pb5 nb5 qb5, .slice pb6 nb6 qb6, .slice pb7 nb7 qb7, .slice pb8 nb8 qb8, .slice pb9 nb9 qb9, .slice pb10 nb10 qb10, .slice pb11 nb11 qb11⟩ T2) := htv.below hba1
  have HX2 : Hid (BoxT (w2.alloc (.cells (tabCells ⟨.slice pb0 nb0 qb0, .slice pb1 nb1 qb1, .slice pb2 nb2 qb2, .slice pb3 nb3 qb3, .slice pb4 nb4 qb4, .slice pb5 nb5 qb5, .slice pb6 nb6 qb6, .slice pb7 nb7 qb7, .slice pb8 nb8 qb8, .slice pb9 nb9 qb9, .slice pb10 nb10 qb10, .slice pb11 nb11 qb11⟩) 26)) w2.heap.size ⟨.slice pb0 nb0 qb0, .slice pb1 nb1 qb1, .slice pb2 nb2 qb2, .slice pb3 nb3 qb3, .slice pb4 nb4 qb4, .slice pb5 nb5 qb5, .slice pb6 nb6 qb6, .slice pb7 nb7 qb7, .slice pb8 nb8 qb8, .slice pb9 nb9 qb9, .slice pb10 nb10 qb10, .slice pb11 nb11 qb11⟩) := BoxT.new _ _ _
  have HY2 : Hid (Env w y U (w2.alloc (.cells (tabCells ⟨.slice pb0 nb0 qb0, .slice pb1 nb1 qb1, .slice pb2 nb2 qb2, .slice pb3 nb3 qb3, .slice pb4 nb4 qb4, .slice pb5 nb5 qb5, .slice pb6 nb6 qb6, .slice pb7 nb7 qb7, .slice pb8 nb8 qb8, .slice pb9 nb9 qb9, .slice pb10 nb10 qb10, .slice pb11 nb11 qb11⟩) 26))) := (HY1.out.step hb).step hba1
  have HE2 : Hid (LEnv w g x T (w2.alloc (.cells (tabCells ⟨.slice pb0 nb0 qb0, .slice pb1 nb1 qb1, .slice pb2 nb2 qb2, .slice pb3 nb3 qb3, .slice pb4 nb4 qb4, .slice pb5 nb5 qb5, .slice pb6 nb6 qb6, .slice pb7 nb7 qb7, .slice pb8 nb8 qb8, .slice pb9 nb9 qb9, .slice pb10 nb10 qb10, .slice pb11 nb11 qb11⟩) 26))) := (HE.out.step hb).step hba1
  have HCAP2 : Hid (CapOf ⟨.slice pb0 nb0 qb0, .slice pb1 nb1 qb1, .slice pb2 nb2 qb2, .slice pb3 nb3 qb3, .slice pb4 nb4 qb4, .slice pb5 nb5 qb5, .slice pb6 nb6 qb6, .slice pb7 nb7 qb7, .slice pb8 nb8 qb8, .slice pb9 nb9 qb9, .slice pb10 nb10 qb10, .slice pb11 nb11 qb11⟩) := hc2 HCAP.out
  clear htv hf2 hc2 hb hba1 HE HY1
  simp only [tabCells] at HT2 HX2 HY2 HE2
  go_upto_region 3 with (fail)
  generalize (w2.alloc (.cells #[.slice pb0 nb0 qb0, .slice pb1 nb1 qb1, .slice pb2 nb2 qb2, .slice pb3 nb3 qb3, .slice pb4 nb4 qb4, .slice pb5 nb5 qb5, .slice pb6 nb6 qb6, .slice pb7 nb7 qb7, .slice pb8 nb8 qb8, .slice pb9 nb9 qb9, .slice pb10 nb10 qb10, .slice pb11 nb11 qb11] 26)) = W2 at HT2 HX2 HY2 HE2 ⊢
  generalize w2.heap.size = h at HX2 ⊢
  generalize (⟨.slice pb0 nb0 qb0, .slice pb1 nb1 qb1, .slice pb2 nb2 qb2, .slice pb3 nb3 qb3, .slice pb4 nb4 qb4, .slice pb5 nb5 qb5, .slice pb6 nb6 qb6, .slice pb7 nb7 qb7, .slice pb8 nb8 qb8, .slice pb9 nb9 qb9, .slice pb10 nb10 qb10, .slice pb11 nb11 qb11⟩ : TV) = x2 at HT2 HX2 HCAP2
  have HE : Hid (Thr w g x T h x2 T2 y U W2) := ⟨HE2.out, ⟨HT2.out, HX2.out, HE2.out.bel⟩, HY2.out⟩
  clear HT2 HX2 HY2 HE2
  obtain ⟨E1, hE1⟩ : ∃ E, Hid (newE T n4 = E) := ⟨_, rfl⟩
  obtain ⟨E3, hE3⟩ : ∃ E, Hid (newE U 4 = E) := ⟨_, rfl⟩
  obtain ⟨⟨k0, k1, k2, k3, k4, k5⟩, ⟨k6, k7, k8, k9, k10, k11⟩⟩ := HE.out.l.box.load
  go_wp2_with fail
  refine (new_any x T n4 E1 _ HE.out.l.tab (HR.out.below HE.out.l.bel) hE1).mono ?_
  rintro e v1 ⟨p1, rfl, hp1, hb⟩
  replace HE := Lib.hid (HE.out.step hb)
  have HP1 := Lib.hid hp1
  clear hb hp1 k0 k1 k2 k3 k4 k5 k6 k7 k8 k9 k10 k11
  obtain ⟨⟨k0, k1, k2, k3, k4, k5⟩, ⟨k6, k7, k8, k9, k10, k11⟩⟩ := HE.out.l.box.load
  go_wp2_with fail
  refine (rnew_any x T n4 E1 _ HE.out.l.tab HCAP.out hE1).mono ?_
  rintro e v2 ⟨p2, rfl, hp2, hb⟩
  replace HE := Lib.hid (HE.out.step hb)
  have HP2 := Lib.hid hp2
  clear hb hp2 k0 k1 k2 k3 k4 k5 k6 k7 k8 k9 k10 k11
  obtain ⟨j0, HJ0, hj⟩ := pickN_nm n4 35 (by omega)
  have HJ : Hid (pickS n4 35 = (j0 : Int)) := HJ0
  clear HJ0
  obtain ⟨zz, hzz⟩ : ∃ z : Int, (j0 : Int) - 1 = z := ⟨_, rfl⟩
  have hw1 : IntKind.i64.wrap ((j0 : Int) - 1) = zz := by rw [IntWalk.i64_in _ (by omega)]; omega
  have hw3 : IntKind.i64.wrap zz = zz := IntWalk.i64_in _ (by omega)
  obtain ⟨E2, hE2⟩ : ∃ E, Hid (newE T2 zz = E) := ⟨_, rfl⟩
  go_upto_region 5 with (fail)
  have HE0 := Lib.hid (HE.out.step (drew_one v2))
  obtain ⟨⟨k0, k1, k2, k3, k4, k5⟩, ⟨k6, k7, k8, k9, k10, k11⟩⟩ := HE.out.o.box.load
  go_cut [21, 22] (fun a b wx => (∃ pa, a = .pointer pa) ∧ b = .int .i64 E2 ∧ Hid (Thr w g x T h x2 T2 y U wx))
  case first =>
    go_region_held3 (boxF h x2)
      (first
        | exact HE0.out.o.box.flat
        | exact (HE0.out.o.step hb4).box.flat)
      (first
        | (go_at_call 13; (with_reducible refine (pickN_at n4 35 j0 _ (by omega) (by omega) HJ).mono ?_); rintro e w3 ⟨rfl, rfl⟩)
        | (go_at_call 11; (with_reducible refine (new_any x2 T2 zz E2 _ HE0.out.o.tab (HR.out.below HE0.out.l.bel) hE2).mono ?_); rintro e w4 ⟨pa4, rfl, hpa4, hb4⟩)
        | fail)
    all_goals
      have hf := HE0.out.step hb4
      try (go_wp2_with fail)
      go_meet
      exact ⟨⟨_, rfl⟩, rfl, hf⟩
  case rest =>
    obtain ⟨⟨pc0, rfl⟩, rfl, HE⟩ := hcut
    clear HE0 k0 k1 k2 k3 k4 k5 k6 k7 k8 k9 k10 k11
    generalize wc = v3 at HE ⊢
    go_upto_region 6 with (fail)
    have HE0 := Lib.hid (HE.out.step (drew_one v3))
    obtain ⟨⟨k0, k1, k2, k3, k4, k5⟩, ⟨k6, k7, k8, k9, k10, k11⟩⟩ := HE.out.o.box.load
    go_cut [23, 24] (fun a b wx => (∃ pa, a = .pointer pa) ∧ b = .int .i64 E2 ∧ Hid (Thr w g x T h x2 T2 y U wx))
    case first =>
      go_region_held3 (boxF h x2)
        (first
          | exact HE0.out.o.box.flat
          | exact (HE0.out.o.step hb4).box.flat)
        (first
          | (go_at_call 13; (with_reducible refine (pickN_at n4 35 j0 _ (by omega) (by omega) HJ).mono ?_); rintro e w3 ⟨rfl, rfl⟩)
          | (go_at_call 12; (with_reducible refine (rnew_any x2 T2 zz E2 _ HE0.out.o.tab HCAP2.out hE2).mono ?_); rintro e w4 ⟨pa4, rfl, hpa4, hb4⟩)
          | fail)
      all_goals
        have hf := HE0.out.step hb4
        try (go_wp2_with fail)
        go_meet
        exact ⟨⟨_, rfl⟩, rfl, hf⟩
    case rest =>
      obtain ⟨⟨pc1, rfl⟩, rfl, HE⟩ := hcut
      clear HE0 k0 k1 k2 k3 k4 k5 k6 k7 k8 k9 k10 k11
      generalize wc = v4 at HE ⊢
      clear hw1 hw3 HJ
      obtain ⟨⟨k0, k1, k2, k3, k4, k5⟩, ⟨k6, k7, k8, k9, k10, k11⟩⟩ := HE.out.r.box.load
      go_wp2_with fail
      refine (new_any y U 4 E3 _ HE.out.r.tab (HR.out.below HE.out.l.bel) hE3).mono ?_
      rintro e v5 ⟨p5, rfl, hp5, hb⟩
      replace HE := Lib.hid (HE.out.step hb)
      have HP5 := Lib.hid hp5
      clear hb hp5 k0 k1 k2 k3 k4 k5 k6 k7 k8 k9 k10 k11
      obtain ⟨⟨k0, k1, k2, k3, k4, k5⟩, ⟨k6, k7, k8, k9, k10, k11⟩⟩ := HE.out.r.box.load
      go_wp2_with fail
      refine (rnew_any y U 4 E3 _ HE.out.r.tab HYC.out hE3).mono ?_
      rintro e v6 ⟨p6, rfl, hp6, hb⟩
      replace HE := Lib.hid (HE.out.step hb)
      have HP6 := Lib.hid hp6
      clear hb hp6 k0 k1 k2 k3 k4 k5 k6 k7 k8 k9 k10 k11
      go_wp2_with fail
      refine (dense9_any p0 cap0 zs0 _ (HI0.out.below HE.out.l.bel) HL0.out).mono ?_
      rintro e w3 ⟨xs, v3x, rfl, hn3, hs3, hi3, hb3⟩
      have hba : Below w3.heap.size w3 (w3.alloc (.cells #[.int .i64 n5] 3)) := (Below.refl _ _).alloc (Nat.le_refl _) _
      have HA3 : Hid (Ints (w3.alloc (.cells #[.int .i64 n5] 3)) v6.heap.size v3x xs) := hi3.below hba
      have HB3 := Lib.hid (hb3.trans (hba.mono hb3.size))
      clear hi3 hb3 hba hs3
      go_wp2_with (at_builtin; refine wpList_append_one _ _ rfl rfl v6.heap.size v3x xs (by rfl) (by exact HA3.out) _ 1 n5 (by rfl) (by simp [World.cell?_alloc_new]) (by omega) (by exact HB3.out.size) ?_; intro v4x w4 ho4 hg4 hv4)
      have hb4 : Below v6.heap.size v6 w4 := below_appI HB3.out HA3.out (Nat.le_refl _) hg4
      replace HE := Lib.hid (HE.out.step hb4)
      obtain ⟨X, hX⟩ : ∃ X, xs ++ [n5] = X := ⟨_, rfl⟩
      rw [hX] at ho4
      obtain ⟨n, hn⟩ : ∃ n, X.length = n := ⟨_, rfl⟩
      have hn16 : n ≤ 16 := by rw [← hn, ← hX]; simp; omega
      have HN := Lib.hid hn
      obtain ⟨pin, cin, ein, hin⟩ := ho4.inn
      rw [hn] at ein
      subst ein
      have HX := Lib.hid hin
      clear hX hn ho4 hg4 hv4 hb4 HA3 HB3 hin
      go_wp2
      go_simp
      go_wp2
      go_loopw [84] (fun i wr => ∃ k : Nat, k ≤ n ∧ i = .int .i64 k ∧ Hid (Thr w g x T h x2 T2 y U wr) ∧ Hid (IntsIn wr pin X)) (fun i _ => n - (intOf i).toNat)
      case atStart => exact ⟨0, Nat.zero_le _, rfl, HE, HX⟩
      case round =>
        obtain ⟨k, hk, rfl, he, hx⟩ := hrel
        by_cases hlt : k < n
        · have hkl : k < X.length := by rw [HN.out]; exact hlt
          obtain ⟨b, off, rfl, hck⟩ := hx.out k hkl
          obtain ⟨z, hz⟩ : ∃ c, X.getD k 0 = c := ⟨_, rfl⟩
          rw [hz] at hck
          obtain ⟨B1, hB1⟩ : ∃ B, Hid (bndT T z = B) := ⟨_, rfl⟩
          obtain ⟨B2, hB2⟩ : ∃ B, Hid (bndT T2 z = B) := ⟨_, rfl⟩
          have t1 : (B1 != B1) = false := by simp
          have t2 : (B2 != B2) = false := by simp
          clear hz hkl
          go_upto_region 13 with (fail)
          clear hck
          obtain ⟨⟨k0, k1, k2, k3, k4, k5⟩, ⟨k6, k7, k8, k9, k10, k11⟩⟩ := he.out.l.box.load
          obtain ⟨⟨l0, l1, l2, l3, l4, l5⟩, ⟨l6, l7, l8, l9, l10, l11⟩⟩ := he.out.o.box.load
          have K0 := fun p => layB_cell k0 p
          have L0 := fun p => layB_cell l0 p
          have K1 := fun p => layB_cell k1 p
          have L1 := fun p => layB_cell l1 p
          have K2 := fun p => layB_cell k2 p
          have L2 := fun p => layB_cell l2 p
          have K3 := fun p => layB_cell k3 p
          have L3 := fun p => layB_cell l3 p
          have K4 := fun p => layB_cell k4 p
          have L4 := fun p => layB_cell l4 p
          have K5 := fun p => layB_cell k5 p
          have L5 := fun p => layB_cell l5 p
          have K6 := fun p => layB_cell k6 p
          have L6 := fun p => layB_cell l6 p
          have K7 := fun p => layB_cell k7 p
          have L7 := fun p => layB_cell l7 p
          have K8 := fun p => layB_cell k8 p
          have L8 := fun p => layB_cell l8 p
          have K9 := fun p => layB_cell k9 p
          have L9 := fun p => layB_cell l9 p
          have K10 := fun p => layB_cell k10 p
          have L10 := fun p => layB_cell l10 p
          have K11 := fun p => layB_cell k11 p
          have L11 := fun p => layB_cell l11 p
          have cc1 := fun p => layB_call (p := p) fun W3 hW3 => boundary_at x T z B1 W3 (he.out.l.tab.below hW3) ((HR.out.below he.out.l.bel).below hW3) hB1
          have cc2 := fun p => layB_call (p := p) fun W3 hW3 => rboundary_at x T z B1 W3 (he.out.l.tab.below hW3) HCAP.out hB1
          have cc3 := fun p => layB_call (p := p) fun W3 hW3 => boundary_at x2 T2 z B2 W3 (he.out.o.tab.below hW3) ((HR.out.below he.out.l.bel).below hW3) hB2
          have cc4 := fun p => layB_call (p := p) fun W3 hW3 => rboundary_at x2 T2 z B2 W3 (he.out.o.tab.below hW3) HCAP2.out hB2
          simp only [TV.agg] at cc1 cc2 cc3 cc4
          have C1 := Lib.hid cc1
          have C2 := Lib.hid cc2
          have C3 := Lib.hid cc3
          have C4 := Lib.hid cc4
          clear cc1 cc2 cc3 cc4 k0 k1 k2 k3 k4 k5 k6 k7 k8 k9 k10 k11 l0 l1 l2 l3 l4 l5 l6 l7 l8 l9 l10 l11
          refine wp_region_layB (by kernel_rfl) (by kernel_rfl) ?_
          repeat (go_big_quiet_step (first
            | (go_at_call 15; with_reducible exact C1.out _)
            | (go_at_call 16; with_reducible exact C2.out _)
            | (go_at_call 15; with_reducible exact C3.out _)
            | (go_at_call 16; with_reducible exact C4.out _)))
          refine wpQuiet_nil ?_
          intro _ hw'
          obtain ⟨pq, hw''⟩ := hw'
          subst hw''
          have hbq := layB_below wr pq
          have HE3 := Lib.hid (he.out.step hbq)
          have HX3 := Lib.hid (hx.out.below hbq)
          generalize layB wr pq = wq at HE3 HX3 ⊢
          clear hbq K0 K1 K2 K3 K4 K5 K6 K7 K8 K9 K10 K11 L0 L1 L2 L3 L4 L5 L6 L7 L8 L9 L10 L11 C1 C2 C3 C4
          go_wp2
          go_roundw
          case rel => exact ⟨k + 1, by omega, by go_num, HE3, HX3⟩
          case measure => simp [intOf]; omega
        · have q1 : (E1 == E1) = true := by simp
          have q2 : (E2 == E2) = true := by simp
          have q3 : (E3 == E3) = true := by simp
          have hpp := HP1.out
          clear HP1
          go_wp2_with fail
          refine (awake9_any _ (HR.out.below he.out.l.bel)).mono ?_
          rintro e wz ⟨rfl, hb⟩
          have HZ := Lib.hid (he.out.step hb).l.bel
          clear hb
          rcases hpp with ⟨rfl, s, rfl⟩ | ⟨h0, rfl⟩
          · go_wp2
            go_ret
            exact ⟨rfl, HZ.out⟩
          · have q4 : (E1 == 0) = false := by simp [h0]
            go_wp2
            go_ret
            exact ⟨rfl, HZ.out⟩

end Go.Proofs.YtfmfifmmaihodaaGreatDoor
