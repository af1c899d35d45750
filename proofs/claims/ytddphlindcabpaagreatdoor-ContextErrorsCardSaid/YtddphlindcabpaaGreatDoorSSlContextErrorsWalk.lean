/-
  The walk of ContextErrors (genCY.py).
-/
import Derived.Test.YtddphlindcabpaaGreatDoorSSlPkZZL
import Derived.Test.YtddphlindcabpaaGreatDoorSSlTblQ
import Derived.Test.YtddphlindcabpaaGreatDoorSSlPkV
import Derived.Deep.RegionHeld3
set_option linter.unusedSimpArgs false
set_option linter.unusedVariables false
namespace Go.Proofs.YtddphlindcabpaaGreatDoor
open Go.RowKit
set_option linter.unusedVariables false

theorem made_few15 {T : Tb} (h : Made T) : Few 256 T := few_of_r1 (check_rules h.check).1
theorem RowIn.take14 {t : IntKind} {w : World} {p : Option Addr} {xs : List Int} (h : RowIn t w p xs) (k : Nat) : RowIn t w p (xs.take k) := by
  intro j hj
  have hj2 : j < k ∧ j < xs.length := by rw [List.length_take] at hj; omega
  obtain ⟨b, off, e, hc⟩ := h j hj2.2
  refine ⟨b, off, e, ?_⟩
  rw [hc]
  congr 2
  simp [List.getD, List.getElem?_take, hj2.1]
theorem agrees15_nm (x : TV) (T : Tb) (pa : Option Addr) (nn ca : Nat) (xs : List Int) (i : Int) (W : World) (hn : xs.length = nn) (h0 : CapOf x) (h1 : TabV W x T) (h2 : Rsv W) (h3 : IntsIn W pa xs) (h4 : xs.length ≤ 17592186043904) :
    Calls Tryz.prog 7 #[x.agg, .slice pa nn ca, .int .i64 i] W (Gives (.bool true) W) := by
  subst hn
  exact agrees15_at x T pa ca xs i W h1 h0 h2 h3 h4
theorem IsRow.cap14 {k : IntKind} {w : World} {a : Option Addr} {len cap : Nat} {zs : List Int} (h : IsRow k w a len cap zs) : len ≤ cap := by
  rcases h with ⟨_, rfl, rfl, _⟩ | ⟨x, _, h1, _⟩
  · exact Nat.le_refl _
  · exact h1

set_option maxRecDepth 100000 in
set_option maxHeartbeats 8000000 in
theorem contextErrors_walk (p0 : Option Addr) (cap0 : Nat) (zs0 : List Int) (p1 : Option Addr) (cap1 : Nat) (zs1 : List Int) (p2 : Option Addr) (cap2 : Nat) (zs2 : List Int) (n3 : Int) (n4 : Int) (n5 : Int) (n6 : Int) (y : TV) (U : Tb) (w : World) (hin0 : IntsIn w p0 zs0) (hl0 : zs0.length ≤ 17592186043904) (hin1 : IntsIn w p1 zs1) (hl1 : zs1.length ≤ 17592186043904) (hin2 : IntsIn w p2 zs2) (hl2 : zs2.length ≤ 17592186043904) (hcp2 : zs2.length ≤ cap2) (hy : TabV w y U) (hyc : ∀ p n c, y.a9 = .slice p n c → n ≤ c) (hr : Rsv w) :
    Calls Tryz.prog 4 #[.slice p0 zs0.length cap0, .slice p1 zs1.length cap1, .slice p2 zs2.length cap2, .int .i64 n3, .int .i64 n4, .int .i64 n5, .int .i64 n6, y.agg] w (Gives (.bool true) w) := by
  have HI0 := Lib.hid hin0
  have HL0 := Lib.hid hl0
  have HI1 := Lib.hid hin1
  have HL1 := Lib.hid hl1
  have HI2 := Lib.hid hin2
  have HL2 := Lib.hid hl2
  have HR := Lib.hid hr
  clear hin0 hl0 hin1 hl1 hin2 hl2 hr
  have HYC : Hid (∀ p n c, y.a9 = .slice p n c → n ≤ c) := hyc
  have HE := Lib.hid (Env.new hy)
  clear hy hyc
  simp only [TV.agg]
  go_enter Tryz.func4, Tryz.ntmps4
  obtain ⟨m, hm⟩ : ∃ m, zs1.length = m := ⟨_, rfl⟩
  obtain ⟨o, ho⟩ : ∃ m, zs2.length = m := ⟨_, rfl⟩
  have hjn := fun W h1 => special_any p1 cap1 zs1 W h1 HL1.out
  have hga := fun (x : TV) T pa ca xs W (h0 : ∀ (p : Option Addr) (n c : Nat), x.a9 = .slice p n c → n ≤ c) (h1 : TabV W x T) h2 (h5 : xs.length ≤ 10) h3 => agrees15_at x T pa ca xs n6 W h1 (show CapOf x from h0) h2 h3 (by omega)
  have hgb := fun (x : TV) T pa nn ca xs W (hn : xs.length = nn) (h0 : ∀ (p : Option Addr) (n c : Nat), x.a9 = .slice p n c → n ≤ c) (h1 : TabV W x T) h2 h3 (h4 : xs.length ≤ 17592186043904) => agrees15_nm x T pa nn ca xs n6 W hn h0 h1 h2 h3 h4
  rw [hm] at hjn
  rw [hm, ho]
  have HJN := Lib.hid hjn
  have HGA := Lib.hid hga
  have HGB := Lib.hid hgb
  have HO := Lib.hid ho
  clear hm ho hjn hga hgb
  go_upto_region 1 with (fail)
  generalize hWB : (w.alloc (.cells (tabCells y) 26)) = WB at HE
  simp only [tabCells] at hWB
  try rw [hWB]
  clear hWB
  go_upto_if 19 with (fail)
  go_cut [2] (fun v wx => ∃ (k : Nat) (xs : List Int), v = .slice p2 k cap2 ∧ Hid (xs.length = k) ∧ Hid (IntsIn w p2 xs) ∧ k ≤ 17592186043904 ∧ wx = WB)
  case first =>
    by_cases ho : 50 < o
    · have d1 : decide ((50 : Int) < (o : Int)) = true := decide_eq_true (by omega)
      have hc50 : 50 ≤ cap2 := by have := HO.out; omega
      have HT := Lib.hid (RowIn.take14 HI2.out 50)
      have HTL : Hid ((zs2.take 50).length = 50) := by have := HO.out; unfold Hid; simp; omega
      go_wp2_with fail
      go_meet
      exact ⟨50, zs2.take 50, rfl, HTL, HT, by omega, rfl⟩
    · have d1 : decide ((50 : Int) < (o : Int)) = false := decide_eq_false (by omega)
      go_wp2_with fail
      go_meet
      exact ⟨o, zs2, rfl, HO, HI2, by have := HO.out; have := HL2.out; omega, rfl⟩
  case rest =>
    obtain ⟨k, xs, rfl, hxl, hxi, hkl, rfl⟩ := hcut
    go_upto_region 3 with (fail)
    have e0 := HE.out.step (drew_one wc)
    have HE0 := Lib.hid e0
    clear e0
    obtain ⟨⟨k0, k1, k2, k3, k4, k5⟩, ⟨k6, k7, k8, k9, k10, k11⟩⟩ := HE.out.box.load
    go_region_held3 (boxF w.heap.size y)
      (first
        | exact HE0.out.box.flat
        | exact (HE0.out.step hb3).box.flat
        | exact ((HE0.out.step hb3).step hb4).box.flat
        | exact (((HE0.out.step hb3).step hb4).step hb5).box.flat
        | exact ((((HE0.out.step hb3).step hb4).step hb5).step hb6).box.flat
        | exact (((((HE0.out.step hb3).step hb4).step hb5).step hb6).step hb7).box.flat
        | exact ((((((HE0.out.step hb3).step hb4).step hb5).step hb6).step hb7).step hb8).box.flat
        | exact (((((((HE0.out.step hb3).step hb4).step hb5).step hb6).step hb7).step hb8).step hb9).box.flat
        | exact ((((((((HE0.out.step hb3).step hb4).step hb5).step hb6).step hb7).step hb8).step hb9).step hb10).box.flat
        | exact (((((((((HE0.out.step hb3).step hb4).step hb5).step hb6).step hb7).step hb8).step hb9).step hb10).step hb11).box.flat)
      (first
        | (go_at_call 6; (with_reducible refine (awake15_any _ (HR.out.below HE0.out.bel)).mono ?_); rintro e w3 ⟨rfl, hb3⟩)
        | (go_at_call 5; (with_reducible refine (tables_any p0 cap0 zs0 _ (HI0.out.below (HE0.out.step hb3).bel) HL0.out).mono ?_); rintro e w4 ⟨x4, T4, rfl, ht4, hm4, hc4, hb4⟩)
        | (go_at_call 11; (with_reducible refine (other_any x4 T4 256 n3 n4 n5 _ ht4 (made_few15 hm4) (by omega)).mono ?_); rintro e w5 ⟨x5, T5, rfl, ht5, hf5, hc5, hb5⟩)
        | (go_at_call 8; (with_reducible refine (HJN.out _ (HI1.out.below (((HE0.out.step hb3).step hb4).step hb5).bel)).mono ?_); rintro e w6 ⟨xs6, v6, rfl, hn6, hs6, hi6, hb6⟩; obtain ⟨p6, c6, e6, h6⟩ := hi6.inn; subst e6)
        | (go_at_call 7; (with_reducible refine (HGA.out x5 T5 p6 c6 xs6 _ (hc5 hc4) (ht5.below hb6) (HR.out.below ((((HE0.out.step hb3).step hb4).step hb5).step hb6).bel) hn6 h6).mono ?_); rintro e w7 ⟨rfl, hb7⟩)
        | (go_at_call 8; (with_reducible refine (HJN.out _ (HI1.out.below (((((HE0.out.step hb3).step hb4).step hb5).step hb6).step hb7).bel)).mono ?_); rintro e w8 ⟨xs8, v8, rfl, hn8, hs8, hi8, hb8⟩; obtain ⟨p8, c8, e8, h8⟩ := hi8.inn; subst e8)
        | (go_at_call 7; (with_reducible refine (HGA.out y U p8 c8 xs8 _ HYC.out ((((((HE0.out.step hb3).step hb4).step hb5).step hb6).step hb7).step hb8).tab (HR.out.below ((((((HE0.out.step hb3).step hb4).step hb5).step hb6).step hb7).step hb8).bel) hn8 h8).mono ?_); rintro e w9 ⟨rfl, hb9⟩)
        | (go_at_call 5; (with_reducible refine (tables_any p0 cap0 zs0 _ (HI0.out.below (((((((HE0.out.step hb3).step hb4).step hb5).step hb6).step hb7).step hb8).step hb9).bel) HL0.out).mono ?_); rintro e w10 ⟨x10, T10, rfl, ht10, hm10, hc10, hb10⟩)
        | (go_at_call 7; (with_reducible refine (HGB.out x10 T10 p2 k cap2 xs _ hxl.out hc10 ht10 (HR.out.below ((((((((HE0.out.step hb3).step hb4).step hb5).step hb6).step hb7).step hb8).step hb9).step hb10).bel) (hxi.out.below ((((((((HE0.out.step hb3).step hb4).step hb5).step hb6).step hb7).step hb8).step hb9).step hb10).bel) (by rw [hxl.out]; exact hkl)).mono ?_); rintro e w11 ⟨rfl, hb11⟩)
        | fail)
    all_goals
      have HBZ := Lib.hid ((((((((((HE0.out.step hb3).step hb4).step hb5).step hb6).step hb7).step hb8).step hb9).step hb10).step hb11)).bel
      clear hb3 hb4 hb5 hb6 hb7 hb8 hb9 hb10 hb11
      go_wp2
      go_ret
      exact ⟨by simp, HBZ.out⟩

end Go.Proofs.YtddphlindcabpaaGreatDoor
