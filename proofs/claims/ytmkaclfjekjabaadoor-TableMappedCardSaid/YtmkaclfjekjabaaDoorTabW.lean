/-
  table: Check.
-/
import Derived.Test.YtmkaclfjekjabaaDoorTabV
import Derived.Test.YtmkaclfjekjabaaDoorTabFacts
namespace Go.Proofs.YtmkaclfjekjabaaDoor
open Go.RowKit

theorem rowsFew_at (x : TV) (T : Tb) (B : Bool) (w : World) (hx : TabV w x T) (hB : Hid (r1 T = B)) : Calls Tryd.prog 16 #[x.agg] w (Gives (.bool B) w) := hB.out ▸ rowsFew_any x T w hx
theorem inOrder_at (x : TV) (T : Tb) (B : Bool) (w : World) (hx : TabV w x T) (hr : Rsv w) (h1 : r1 T = true) (hB : Hid (r2 T = B)) : Calls Tryd.prog 17 #[x.agg] w (Gives (.bool B) w) := hB.out ▸ inOrder_any x T w hx hr h1
theorem values_at (x : TV) (T : Tb) (B : Bool) (w : World) (hx : TabV w x T) (hB : Hid (r3 T = B)) : Calls Tryd.prog 18 #[x.agg] w (Gives (.bool B) w) := hB.out ▸ values_any x T w hx
theorem seqsIn_at (x : TV) (T : Tb) (B : Bool) (w : World) (hx : TabV w x T) (hB : Hid (r4 T = B)) : Calls Tryd.prog 19 #[x.agg] w (Gives (.bool B) w) := hB.out ▸ seqsIn_any x T w hx
theorem mapsOf_at (x : TV) (T : Tb) (B : Bool) (w : World) (hx : TabV w x T) (ha : ascB 0 T.sta = true) (hB : Hid (r5 T = B)) : Calls Tryd.prog 20 #[x.agg] w (Gives (.bool B) w) := hB.out ▸ mapsOfStatus_any x T w hx ha
theorem finite_at (x : TV) (T : Tb) (B : Bool) (w : World) (hx : TabV w x T) (h1 : r1 T = true) (h2 : r2 T = true) (h4 : r4 T = true) (hB : Hid (r6 T = B)) : Calls Tryd.prog 21 #[x.agg] w (Gives (.bool B) w) :=
  hB.out ▸ finite_any x T w hx (few_mp h1).2.2.1 (r2_key h2).2.2.1 (r4_ne h4)
theorem excl_at (x : TV) (T : Tb) (B : Bool) (w : World) (hx : TabV w x T) (h2 : r2 T = true) (hB : Hid (r7 T = B)) : Calls Tryd.prog 22 #[x.agg] w (Gives (.bool B) w) := hB.out ▸ exclDecomps_any x T w hx (r2_key h2).2.2.1
theorem unique_at (x : TV) (T : Tb) (B : Bool) (w : World) (hx : TabV w x T) (H : CmpH T) (h4 : r4 T = true) (hB : Hid (r8 T = B)) : Calls Tryd.prog 23 #[x.agg] w (Gives (.bool B) w) := hB.out ▸ unique_any x T w hx H (r4_sca h4)
theorem protos_at (x : TV) (T : Tb) (B : Bool) (w : World) (hx : TabV w x T) (h2 : r2 T = true) (hB : Hid (r9 T = B)) : Calls Tryd.prog 24 #[x.agg] w (Gives (.bool B) w) := hB.out ▸ protos_any x T w hx (r2_key h2).2.2.1 (r2_key h2).2.2.2.1 (r2_sp h2).2.2.2.2.2.2

set_option maxHeartbeats 8000000 in
theorem check_tab (x : TV) (T : Tb) (w : World) (hx : TabV w x T) (hr : Rsv w) :
    Calls Tryd.prog 6 #[x.agg] w (Gives (.int .i64 (checkT T)) w) := by
  have HE := Lib.hid (Env.new hx)
  have HR := Lib.hid (hr.below (Env.new hx).bel)
  obtain ⟨V, hV⟩ : ∃ V, Hid (checkT T = V) := ⟨_, rfl⟩
  rw [hV.out]
  obtain ⟨B1, hB1⟩ : ∃ B, Hid (r1 T = B) := ⟨_, rfl⟩
  obtain ⟨B2, hB2⟩ : ∃ B, Hid (r2 T = B) := ⟨_, rfl⟩
  obtain ⟨B3, hB3⟩ : ∃ B, Hid (r3 T = B) := ⟨_, rfl⟩
  obtain ⟨B4, hB4⟩ : ∃ B, Hid (r4 T = B) := ⟨_, rfl⟩
  obtain ⟨B5, hB5⟩ : ∃ B, Hid (r5 T = B) := ⟨_, rfl⟩
  obtain ⟨B6, hB6⟩ : ∃ B, Hid (r6 T = B) := ⟨_, rfl⟩
  obtain ⟨B7, hB7⟩ : ∃ B, Hid (r7 T = B) := ⟨_, rfl⟩
  obtain ⟨B8, hB8⟩ : ∃ B, Hid (r8 T = B) := ⟨_, rfl⟩
  obtain ⟨B9, hB9⟩ : ∃ B, Hid (r9 T = B) := ⟨_, rfl⟩
  clear hx hr
  simp only [TV.agg]
  go_enter Tryd.func6, Tryd.ntmps6
  go_wp2_with fail
  refine (rowsFew_at x T B1 _ HE.out.tab hB1).mono ?_
  rintro e w1 ⟨rfl, hb⟩
  replace HR := Lib.hid (HR.out.below hb)
  replace HE := Lib.hid (HE.out.step hb)
  clear hb
  cases B1 with
  | false => go_wp2; go_ret; exact ⟨by rw [← hV.out, check_1 hB1.out]; rfl, HE.out.bel⟩
  | true =>
    obtain ⟨⟨k0, k1, k2, k3, k4, k5⟩, ⟨k6, k7, k8, k9, k10, k11⟩⟩ := HE.out.box
    go_wp2_with fail
    refine (inOrder_at x T B2 _ HE.out.tab HR.out hB1.out hB2).mono ?_
    rintro e w2 ⟨rfl, hb⟩
    replace HE := Lib.hid (HE.out.step hb)
    clear hb HR k0 k1 k2 k3 k4 k5 k6 k7 k8 k9 k10 k11
    cases B2 with
    | false => go_wp2; go_ret; exact ⟨by rw [← hV.out, check_2 hB1.out hB2.out]; rfl, HE.out.bel⟩
    | true =>
      obtain ⟨⟨k0, k1, k2, k3, k4, k5⟩, ⟨k6, k7, k8, k9, k10, k11⟩⟩ := HE.out.box
      go_wp2_with fail
      refine (values_at x T B3 _ HE.out.tab hB3).mono ?_
      rintro e w3 ⟨rfl, hb⟩
      replace HE := Lib.hid (HE.out.step hb)
      clear hb k0 k1 k2 k3 k4 k5 k6 k7 k8 k9 k10 k11
      cases B3 with
      | false => go_wp2; go_ret; exact ⟨by rw [← hV.out, check_3 hB1.out hB2.out hB3.out]; rfl, HE.out.bel⟩
      | true =>
        obtain ⟨⟨k0, k1, k2, k3, k4, k5⟩, ⟨k6, k7, k8, k9, k10, k11⟩⟩ := HE.out.box
        go_wp2_with fail
        refine (seqsIn_at x T B4 _ HE.out.tab hB4).mono ?_
        rintro e w4 ⟨rfl, hb⟩
        replace HE := Lib.hid (HE.out.step hb)
        clear hb k0 k1 k2 k3 k4 k5 k6 k7 k8 k9 k10 k11
        cases B4 with
        | false => go_wp2; go_ret; exact ⟨by rw [← hV.out, check_4 hB1.out hB2.out hB3.out hB4.out]; rfl, HE.out.bel⟩
        | true =>
          obtain ⟨⟨k0, k1, k2, k3, k4, k5⟩, ⟨k6, k7, k8, k9, k10, k11⟩⟩ := HE.out.box
          go_wp2_with fail
          refine (mapsOf_at x T B5 _ HE.out.tab (r2_sp hB2.out).2.2.2.2.2.1 hB5).mono ?_
          rintro e w5 ⟨rfl, hb⟩
          replace HE := Lib.hid (HE.out.step hb)
          clear hb k0 k1 k2 k3 k4 k5 k6 k7 k8 k9 k10 k11
          cases B5 with
          | false => go_wp2; go_ret; exact ⟨by rw [← hV.out, check_5 hB1.out hB2.out hB3.out hB4.out hB5.out]; rfl, HE.out.bel⟩
          | true =>
            obtain ⟨⟨k0, k1, k2, k3, k4, k5⟩, ⟨k6, k7, k8, k9, k10, k11⟩⟩ := HE.out.box
            go_wp2_with fail
            refine (finite_at x T B6 _ HE.out.tab hB1.out hB2.out hB4.out hB6).mono ?_
            rintro e w6 ⟨rfl, hb⟩
            replace HE := Lib.hid (HE.out.step hb)
            clear hb k0 k1 k2 k3 k4 k5 k6 k7 k8 k9 k10 k11
            cases B6 with
            | false => go_wp2; go_ret; exact ⟨by rw [← hV.out, check_6 hB1.out hB2.out hB3.out hB4.out hB5.out hB6.out]; rfl, HE.out.bel⟩
            | true =>
              have HC := Lib.hid (cmpH_of hB1.out hB2.out hB3.out hB4.out hB6.out)
              have HV : Hid (V = if B7 = false then 7 else if B8 = false then 8 else if B9 = false then 9 else 0) := by
                unfold Hid; rw [← hV.out, check_7 hB1.out hB2.out hB3.out hB4.out hB5.out hB6.out, hB7.out, hB8.out, hB9.out]
              obtain ⟨⟨k0, k1, k2, k3, k4, k5⟩, ⟨k6, k7, k8, k9, k10, k11⟩⟩ := HE.out.box
              go_wp2_with fail
              refine (excl_at x T B7 _ HE.out.tab hB2.out hB7).mono ?_
              rintro e w7 ⟨rfl, hb⟩
              replace HE := Lib.hid (HE.out.step hb)
              clear hb k0 k1 k2 k3 k4 k5 k6 k7 k8 k9 k10 k11
              cases B7 with
              | false => go_wp2; go_ret; exact ⟨by rw [HV.out]; rfl, HE.out.bel⟩
              | true =>
                obtain ⟨⟨k0, k1, k2, k3, k4, k5⟩, ⟨k6, k7, k8, k9, k10, k11⟩⟩ := HE.out.box
                go_wp2_with fail
                refine (unique_at x T B8 _ HE.out.tab HC.out hB4.out hB8).mono ?_
                rintro e w8 ⟨rfl, hb⟩
                replace HE := Lib.hid (HE.out.step hb)
                clear hb k0 k1 k2 k3 k4 k5 k6 k7 k8 k9 k10 k11
                cases B8 with
                | false => go_wp2; go_ret; exact ⟨by rw [HV.out]; rfl, HE.out.bel⟩
                | true =>
                  obtain ⟨⟨k0, k1, k2, k3, k4, k5⟩, ⟨k6, k7, k8, k9, k10, k11⟩⟩ := HE.out.box
                  go_wp2_with fail
                  refine (protos_at x T B9 _ HE.out.tab hB2.out hB9).mono ?_
                  rintro e w9 ⟨rfl, hb⟩
                  replace HE := Lib.hid (HE.out.step hb)
                  clear hb k0 k1 k2 k3 k4 k5 k6 k7 k8 k9 k10 k11
                  cases B9 with
                  | false => go_wp2; go_ret; exact ⟨by rw [HV.out]; rfl, HE.out.bel⟩
                  | true => go_wp2; go_ret; exact ⟨by rw [HV.out]; rfl, HE.out.bel⟩

theorem check_tab_at (x : TV) (T : Tb) (V : Int) (w : World) (hx : TabV w x T) (hr : Rsv w) (hV : Hid (checkT T = V)) :
    Calls Tryd.prog 6 #[x.agg] w (Gives (.int .i64 V) w) := hV.out ▸ check_tab x T w hx hr

end Go.Proofs.YtmkaclfjekjabaaDoor
