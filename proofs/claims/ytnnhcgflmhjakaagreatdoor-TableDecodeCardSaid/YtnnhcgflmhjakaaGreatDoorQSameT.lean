/-
  keep.SameMappings and keep.SameTables, at equal tables (genST.py).
-/
import Derived.Test.YtnnhcgflmhjakaaGreatDoorPkM
import Derived.Test.YtnnhcgflmhjakaaGreatDoorPkF
import Derived.Test.YtnnhcgflmhjakaaGreatDoorQTabH
import Derived.Test.YtnnhcgflmhjakaaGreatDoorQTabK
set_option linter.unusedSimpArgs false
set_option linter.unusedVariables false
namespace Go.Proofs.YtnnhcgflmhjakaaGreatDoor
open Go Go.RowKit
set_option linter.unusedVariables false

theorem sameI_eq (v u : Value) (l : List Int) (w : World) (hv : InV w v l) (hu : InV w u l) : Calls Tryz.prog 37 #[v, u] w (Gives (.bool true) w) := by
  obtain ⟨p, c, rfl, h1, h2⟩ := hv
  obtain ⟨q, d, rfl, h3, h4⟩ := hu
  refine (same_any p q c d l l w h1 h3 (by unfold maxLen; omega) (by unfold maxLen; omega)).mono ?_
  rintro e w' ⟨rfl, h⟩
  exact ⟨by simp, h⟩
theorem sameS_eq (v u : Value) (l : List Sp) (w : World) (hv : SpV w v l) (hu : SpV w u l) : Calls Tryz.prog 43 #[v, u] w (Gives (.bool true) w) := by
  obtain ⟨p, c, rfl, h1, h2⟩ := hv
  obtain ⟨q, d, rfl, h3, h4⟩ := hu
  refine (sameS_any p q c d _ _ l l w h1 h3 rfl rfl (by unfold maxLen; omega) (by unfold maxLen; omega)).mono ?_
  rintro e w' ⟨rfl, h⟩
  exact ⟨by simp, h⟩

theorem two_at {w w' : World} {b o : Nat} {x y : Value} (h : w.cell? ⟨b, o, none⟩ = some x ∧ w.cell? ⟨b, o + 1, none⟩ = some y) (hb : Below w.heap.size w w') : w'.cell? ⟨b, o, none⟩ = some x ∧ w'.cell? ⟨b, o + 1, none⟩ = some y := by
  have hlt := World.block_lt_of_cell? w _ h.1
  exact ⟨(hb.cell (p := ⟨b, o, none⟩) hlt).trans h.1, (hb.cell (p := ⟨b, o + 1, none⟩) hlt).trans h.2⟩

set_option maxRecDepth 100000 in
set_option maxHeartbeats 4000000 in
theorem sameM_eq (v u : Value) (l : List Mp) (w : World) (hv : MpV w v l) (hu : MpV w u l) : Calls Tryz.prog 44 #[v, u] w (Gives (.bool true) w) := by
  obtain ⟨p, c, rfl, h1, h2⟩ := hv
  obtain ⟨q, d, rfl, h3, h4⟩ := hu
  obtain ⟨n, hn⟩ : ∃ n, l.length = n := ⟨_, rfl⟩
  rw [hn] at h2 ⊢
  have HX := Lib.hid h1
  have HY := Lib.hid h3
  have HL := Lib.hid hn
  have hne : ((n : Int) != (n : Int)) = false := by simp
  clear h1 h3 h4 hn
  go_enter Tryz.func44, Tryz.ntmps44
  go_wp2
  go_loopw [13] (fun i wr => ∃ k : Nat, k ≤ n ∧ i = .int .i64 k ∧ Hid (Below w.heap.size w wr)) (fun i _ => n - (intOf i).toNat)
  case atStart => exact ⟨0, Nat.zero_le _, rfl, Below.refl _ _⟩
  case round =>
    obtain ⟨k, hk, rfl, hbel⟩ := hrel
    by_cases hlt : k < n
    · have hkl : k < l.length := by rw [HL.out]; exact hlt
      obtain ⟨b1, o1, v1, rfl, c1, c2, hv1⟩ := (HX.out.below hbel.out) k hkl
      obtain ⟨b2, o2, v2, rfl, d1, d2, hv2⟩ := (HY.out.below hbel.out) k hkl
      obtain ⟨⟨f, tl⟩, hs⟩ : ∃ s, l.getD k mp0 = s := ⟨_, rfl⟩
      rw [hs] at c1 d1 hv1 hv2
      simp only at c1 d1 hv1 hv2
      have hff : (f != f) = false := by simp
      have HV1 := Lib.hid hv1
      have HV2 := Lib.hid hv2
      clear hs hv1 hv2
      go_upto_region 6 with (fail)
      go_region_held3 (fun w' => (w'.cell? ⟨b1, o1 + k * 2, none⟩ = some (.int .i64 f) ∧ w'.cell? ⟨b1, o1 + k * 2 + 1, none⟩ = some v1) ∧ w'.cell? ⟨b2, o2 + k * 2, none⟩ = some (.int .i64 f) ∧ w'.cell? ⟨b2, o2 + k * 2 + 1, none⟩ = some v2)
        (first
          | go_keep
          | (refine ⟨two_at ?_ hb5, two_at ?_ hb5⟩ <;> first | assumption | (constructor <;> assumption)))
        (first
          | (go_at_call 37; (with_reducible refine (sameI_eq v1 v2 tl _ (HV1.out.below (drew_one _)) (HV2.out.below (drew_one _))).mono ?_); rintro e w5 ⟨rfl, hb5⟩))
      all_goals
        have HB5 := Lib.hid (hbel.out.trans ((drew_one wr).trans hb5 |>.mono hbel.out.size))
        clear hb5 c1 c2 d1 d2
        go_wp2
        go_roundw
        case rel => exact ⟨k + 1, by omega, by go_num, HB5⟩
        case measure => simp [intOf]; omega
    · obtain rfl : k = n := by omega
      go_wp2
      go_ret
      exact ⟨rfl, hbel.out⟩

structure SS (w0 : World) (x y : TV) (T : Tb) (w : World) : Prop where
  tx : TabV w x T
  ty : TabV w y T
  bx : BoxT w w0.heap.size x
  by' : BoxT w (w0.heap.size + 1) y
  bel : Below w0.heap.size w0 w

theorem SS.step {w0 w w' : World} {x y : TV} {T : Tb} (h : SS w0 x y T w) (hb : Below w.heap.size w w') : SS w0 x y T w' :=
  ⟨h.tx.below hb, h.ty.below hb, h.bx.below hb, h.by'.below hb, h.bel.trans (hb.mono h.bel.size)⟩

theorem SS.new {w : World} {x y : TV} {T : Tb} (hx : TabV w x T) (hy : TabV w y T) (t : TypeId) : SS w x y T ((w.alloc (.cells (tabCells x) t)).alloc (.cells (tabCells y) t)) := by
  have ha : Below w.heap.size w (w.alloc (.cells (tabCells x) t)) := (Below.refl _ _).alloc (Nat.le_refl _) _
  have hb : Below (w.alloc (.cells (tabCells x) t)).heap.size (w.alloc (.cells (tabCells x) t)) ((w.alloc (.cells (tabCells x) t)).alloc (.cells (tabCells y) t)) := (Below.refl _ _).alloc (Nat.le_refl _) _
  refine ⟨(hx.below ha).below hb, (hy.below ha).below hb, (BoxT.new w x t).below hb, ?_, ha.trans (hb.mono ha.size)⟩
  have := BoxT.new (w.alloc (.cells (tabCells x) t)) y t
  simpa using this

set_option maxRecDepth 100000 in
set_option maxHeartbeats 8000000 in
theorem sameTables_eq (x y : TV) (T : Tb) (w : World) (hx : TabV w x T) (hy : TabV w y T) : Calls Tryz.prog 16 #[x.agg, y.agg] w (Gives (.bool true) w) := by
  have HS := Lib.hid (SS.new hx hy 29)
  clear hx hy
  simp only [TV.agg]
  simp only [tabCells] at HS
  go_enter Tryz.func16, Tryz.ntmps16
  obtain ⟨⟨k0, k1, k2, k3, k4, k5⟩, ⟨k6, k7, k8, k9, k10, k11⟩⟩ := HS.out.bx
  obtain ⟨⟨l0, l1, l2, l3, l4, l5⟩, ⟨l6, l7, l8, l9, l10, l11⟩⟩ := HS.out.by'
  clear k1 l1
  clear k2 l2
  clear k3 l3
  clear k4 l4
  clear k5 l5
  clear k6 l6
  clear k7 l7
  clear k8 l8
  clear k9 l9
  clear k10 l10
  clear k11 l11
  go_wp2_with fail
  refine (sameS_eq x.a0 y.a0 T.cat _ HS.out.tx.cat HS.out.ty.cat).mono ?_
  rintro e u0 ⟨rfl, hb⟩
  replace HS := Lib.hid (HS.out.step hb)
  clear hb k0 l0
  obtain ⟨⟨k0, k1, k2, k3, k4, k5⟩, ⟨k6, k7, k8, k9, k10, k11⟩⟩ := HS.out.bx
  obtain ⟨⟨l0, l1, l2, l3, l4, l5⟩, ⟨l6, l7, l8, l9, l10, l11⟩⟩ := HS.out.by'
  clear k0 l0
  clear k2 l2
  clear k3 l3
  clear k4 l4
  clear k5 l5
  clear k6 l6
  clear k7 l7
  clear k8 l8
  clear k9 l9
  clear k10 l10
  clear k11 l11
  go_wp2_with fail
  refine (sameS_eq x.a1 y.a1 T.cls _ HS.out.tx.cls HS.out.ty.cls).mono ?_
  rintro e u1 ⟨rfl, hb⟩
  replace HS := Lib.hid (HS.out.step hb)
  clear hb k1 l1
  obtain ⟨⟨k0, k1, k2, k3, k4, k5⟩, ⟨k6, k7, k8, k9, k10, k11⟩⟩ := HS.out.bx
  obtain ⟨⟨l0, l1, l2, l3, l4, l5⟩, ⟨l6, l7, l8, l9, l10, l11⟩⟩ := HS.out.by'
  clear k0 l0
  clear k1 l1
  clear k3 l3
  clear k4 l4
  clear k5 l5
  clear k6 l6
  clear k7 l7
  clear k8 l8
  clear k9 l9
  clear k10 l10
  clear k11 l11
  go_wp2_with fail
  refine (sameS_eq x.a2 y.a2 T.joi _ HS.out.tx.joi HS.out.ty.joi).mono ?_
  rintro e u2 ⟨rfl, hb⟩
  replace HS := Lib.hid (HS.out.step hb)
  clear hb k2 l2
  obtain ⟨⟨k0, k1, k2, k3, k4, k5⟩, ⟨k6, k7, k8, k9, k10, k11⟩⟩ := HS.out.bx
  obtain ⟨⟨l0, l1, l2, l3, l4, l5⟩, ⟨l6, l7, l8, l9, l10, l11⟩⟩ := HS.out.by'
  clear k0 l0
  clear k1 l1
  clear k2 l2
  clear k4 l4
  clear k5 l5
  clear k6 l6
  clear k7 l7
  clear k8 l8
  clear k9 l9
  clear k10 l10
  clear k11 l11
  go_wp2_with fail
  refine (sameS_eq x.a3 y.a3 T.bid _ HS.out.tx.bid HS.out.ty.bid).mono ?_
  rintro e u3 ⟨rfl, hb⟩
  replace HS := Lib.hid (HS.out.step hb)
  clear hb k3 l3
  obtain ⟨⟨k0, k1, k2, k3, k4, k5⟩, ⟨k6, k7, k8, k9, k10, k11⟩⟩ := HS.out.bx
  obtain ⟨⟨l0, l1, l2, l3, l4, l5⟩, ⟨l6, l7, l8, l9, l10, l11⟩⟩ := HS.out.by'
  clear k0 l0
  clear k1 l1
  clear k2 l2
  clear k3 l3
  clear k5 l5
  clear k6 l6
  clear k7 l7
  clear k8 l8
  clear k9 l9
  clear k10 l10
  clear k11 l11
  go_wp2_with fail
  refine (sameS_eq x.a4 y.a4 T.scr _ HS.out.tx.scr HS.out.ty.scr).mono ?_
  rintro e u4 ⟨rfl, hb⟩
  replace HS := Lib.hid (HS.out.step hb)
  clear hb k4 l4
  obtain ⟨⟨k0, k1, k2, k3, k4, k5⟩, ⟨k6, k7, k8, k9, k10, k11⟩⟩ := HS.out.bx
  obtain ⟨⟨l0, l1, l2, l3, l4, l5⟩, ⟨l6, l7, l8, l9, l10, l11⟩⟩ := HS.out.by'
  clear k0 l0
  clear k1 l1
  clear k2 l2
  clear k3 l3
  clear k4 l4
  clear k6 l6
  clear k7 l7
  clear k8 l8
  clear k9 l9
  clear k10 l10
  clear k11 l11
  go_wp2_with fail
  refine (sameS_eq x.a5 y.a5 T.sta _ HS.out.tx.sta HS.out.ty.sta).mono ?_
  rintro e u5 ⟨rfl, hb⟩
  replace HS := Lib.hid (HS.out.step hb)
  clear hb k5 l5
  obtain ⟨⟨k0, k1, k2, k3, k4, k5⟩, ⟨k6, k7, k8, k9, k10, k11⟩⟩ := HS.out.bx
  obtain ⟨⟨l0, l1, l2, l3, l4, l5⟩, ⟨l6, l7, l8, l9, l10, l11⟩⟩ := HS.out.by'
  clear k0 l0
  clear k1 l1
  clear k2 l2
  clear k3 l3
  clear k4 l4
  clear k5 l5
  clear k7 l7
  clear k8 l8
  clear k9 l9
  clear k10 l10
  clear k11 l11
  go_wp2_with fail
  refine (sameS_eq x.a6 y.a6 T.ign _ HS.out.tx.ign HS.out.ty.ign).mono ?_
  rintro e u6 ⟨rfl, hb⟩
  replace HS := Lib.hid (HS.out.step hb)
  clear hb k6 l6
  obtain ⟨⟨k0, k1, k2, k3, k4, k5⟩, ⟨k6, k7, k8, k9, k10, k11⟩⟩ := HS.out.bx
  obtain ⟨⟨l0, l1, l2, l3, l4, l5⟩, ⟨l6, l7, l8, l9, l10, l11⟩⟩ := HS.out.by'
  clear k0 l0
  clear k1 l1
  clear k2 l2
  clear k3 l3
  clear k4 l4
  clear k5 l5
  clear k6 l6
  clear k8 l8
  clear k9 l9
  clear k10 l10
  clear k11 l11
  go_wp2_with fail
  refine (sameM_eq x.a7 y.a7 T.ext _ HS.out.tx.ext HS.out.ty.ext).mono ?_
  rintro e u7 ⟨rfl, hb⟩
  replace HS := Lib.hid (HS.out.step hb)
  clear hb k7 l7
  obtain ⟨⟨k0, k1, k2, k3, k4, k5⟩, ⟨k6, k7, k8, k9, k10, k11⟩⟩ := HS.out.bx
  obtain ⟨⟨l0, l1, l2, l3, l4, l5⟩, ⟨l6, l7, l8, l9, l10, l11⟩⟩ := HS.out.by'
  clear k0 l0
  clear k1 l1
  clear k2 l2
  clear k3 l3
  clear k4 l4
  clear k5 l5
  clear k6 l6
  clear k7 l7
  clear k9 l9
  clear k10 l10
  clear k11 l11
  go_wp2_with fail
  refine (sameM_eq x.a8 y.a8 T.map _ HS.out.tx.map HS.out.ty.map).mono ?_
  rintro e u8 ⟨rfl, hb⟩
  replace HS := Lib.hid (HS.out.step hb)
  clear hb k8 l8
  obtain ⟨⟨k0, k1, k2, k3, k4, k5⟩, ⟨k6, k7, k8, k9, k10, k11⟩⟩ := HS.out.bx
  obtain ⟨⟨l0, l1, l2, l3, l4, l5⟩, ⟨l6, l7, l8, l9, l10, l11⟩⟩ := HS.out.by'
  clear k0 l0
  clear k1 l1
  clear k2 l2
  clear k3 l3
  clear k4 l4
  clear k5 l5
  clear k6 l6
  clear k7 l7
  clear k8 l8
  clear k10 l10
  clear k11 l11
  go_wp2_with fail
  refine (sameM_eq x.a9 y.a9 T.dec _ HS.out.tx.dec HS.out.ty.dec).mono ?_
  rintro e u9 ⟨rfl, hb⟩
  replace HS := Lib.hid (HS.out.step hb)
  clear hb k9 l9
  obtain ⟨⟨k0, k1, k2, k3, k4, k5⟩, ⟨k6, k7, k8, k9, k10, k11⟩⟩ := HS.out.bx
  obtain ⟨⟨l0, l1, l2, l3, l4, l5⟩, ⟨l6, l7, l8, l9, l10, l11⟩⟩ := HS.out.by'
  clear k0 l0
  clear k1 l1
  clear k2 l2
  clear k3 l3
  clear k4 l4
  clear k5 l5
  clear k6 l6
  clear k7 l7
  clear k8 l8
  clear k9 l9
  clear k10 l10
  go_wp2_with fail
  refine (sameM_eq x.a11 y.a11 T.pro _ HS.out.tx.pro HS.out.ty.pro).mono ?_
  rintro e u10 ⟨rfl, hb⟩
  replace HS := Lib.hid (HS.out.step hb)
  clear hb k11 l11
  obtain ⟨⟨k0, k1, k2, k3, k4, k5⟩, ⟨k6, k7, k8, k9, k10, k11⟩⟩ := HS.out.bx
  obtain ⟨⟨l0, l1, l2, l3, l4, l5⟩, ⟨l6, l7, l8, l9, l10, l11⟩⟩ := HS.out.by'
  clear k0 l0
  clear k1 l1
  clear k2 l2
  clear k3 l3
  clear k4 l4
  clear k5 l5
  clear k6 l6
  clear k7 l7
  clear k8 l8
  clear k9 l9
  clear k11 l11
  go_wp2_with fail
  refine (sameI_eq x.a10 y.a10 T.exc _ HS.out.tx.exc HS.out.ty.exc).mono ?_
  rintro e u11 ⟨rfl, hb⟩
  replace HS := Lib.hid (HS.out.step hb)
  clear hb k10 l10
  go_wp2
  go_ret
  exact ⟨rfl, HS.out.bel⟩

end Go.Proofs.YtnnhcgflmhjakaaGreatDoor
