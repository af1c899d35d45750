/-
  The references of ranges: Overlay.
-/
import Derived.Test.YtkapjihjbflliaaRanRefD
namespace Go.Proofs.Ytkapjihjbflliaa
open Go.RowKit

theorem ov_take {a b : List Sp} (ha : ascB 0 a = true) (hb : ascB 0 b = true) (k : Nat) : ascB 0 ((b.take k).foldl ovstep a) = true :=
  (ov_facts (b.take k) a 0 ha (asc_take k hb) (by omega)).1

theorem ov_snoc (a b : List Sp) (k : Nat) (h : k < b.length) : (b.take (k + 1)).foldl ovstep a = ovstep ((b.take k).foldl ovstep a) (b.getD k sp0) := by
  rw [take_snoc_sp b k h, List.foldl_append]; rfl

theorem grownBy_of_alloc {w w' : World} {o : Obj} {row : Option Nat} (h : (w.alloc o).grownBy w' row) : w.grownBy w' row := by
  have hA := World.grownBy_alloc w o row
  exact ⟨h.os.trans hA.os, h.tape.trans hA.tape, h.output.trans hA.output, Nat.le_trans hA.size h.size, fun i hi hne => (h.block i (Nat.lt_of_lt_of_le hi hA.size) hne).trans (hA.block i hi hne)⟩

theorem below_of_alloc {w w' : World} {o : Obj} (h : Below (w.alloc o).heap.size (w.alloc o) w') : Below w.heap.size w w' :=
  ((Below.refl _ _).alloc (Nat.le_refl _) o).trans (h.mono (by simp))

theorem SpIn.older {w0 w w' : World} {p : Option Addr} {l : List Sp} {row : Option Nat} (h0 : SpIn w0 p l) (h : SpIn w p l) (hg : w.grownBy w' row) (hr : ∀ k, row = some k → w0.heap.size ≤ k) : SpIn w' p l := by
  intro k hk
  obtain ⟨b, off, e, h1, h2, h3⟩ := h k hk
  obtain ⟨b0, off0, e0, hc0, _⟩ := h0 k hk
  rw [e] at e0
  cases e0
  have hlt := World.block_lt_of_cell? w0 _ hc0
  simp only at hlt
  have hne : some b ≠ row := fun h => by have := hr b h.symm; omega
  exact ⟨b, off, e, hg.cell h1 hne, hg.cell h2 hne, hg.cell h3 hne⟩

set_option maxRecDepth 100000 in
set_option maxHeartbeats 4000000 in
theorem roverlay_any (p q : Option Addr) (n m c d : Nat) (a b : List Sp) (w : World) (hl : a.length = n) (hm : b.length = m) (hn : n ≤ maxLen) (hmm : m ≤ maxLen) (hin : SpIn w p a) (hin2 : SpIn w q b) :
    Calls Try.prog 27 #[.slice p n c, .slice q m d] w (RetPost (overS a b) w) := by
  have HI := Lib.hid hin
  have HJ := Lib.hid hin2
  have HL := Lib.hid hl
  have HM := Lib.hid hm
  clear hin hin2 hl hm
  cases hva : validS a with
  | false =>
    have HF : Hid (overS a b = ([], 1)) := over_inv (by simp [hva])
    have HV := Lib.hid hva
    clear hva
    go_enter Try.func27, Try.ntmps27
    go_wp2_with fail
    refine (rvalid_at p n c a false _ HL hn HI.out HV).mono ?_
    rintro e w1 ⟨rfl, hb1⟩
    have HB := Lib.hid hb1
    clear hb1
    go_wp2
    go_ret2
    rw [HF.out]
    exact ⟨⟨_, rfl, Spans.nil _ _⟩, HB.out⟩
  | true =>
    cases hvb : validS b with
    | false =>
      have HF : Hid (overS a b = ([], 1)) := over_inv (by simp [hvb])
      have HV := Lib.hid hva
      have HW := Lib.hid hvb
      clear hva hvb
      go_enter Try.func27, Try.ntmps27
      go_wp2_with fail
      refine (rvalid_at p n c a true _ HL hn HI.out HV).mono ?_
      rintro e w1 ⟨rfl, hb1⟩
      have HB := Lib.hid hb1
      have HJ1 := Lib.hid (HJ.out.below hb1)
      clear hb1
      go_wp2_with fail
      refine (rvalid_at q m d b false _ HM hmm HJ1.out HW).mono ?_
      rintro e w2 ⟨rfl, hb2⟩
      have HB2 := Lib.hid (HB.out.trans (hb2.mono HB.out.size))
      clear hb2
      go_wp2
      go_ret2
      rw [HF.out]
      exact ⟨⟨_, rfl, Spans.nil _ _⟩, HB2.out⟩
    | true =>
      have hn2 : n ≤ 256 := by rw [← HL.out]; exact valid_len hva
      have hm2 : m ≤ 256 := by rw [← HM.out]; exact valid_len hvb
      have HF : Hid (overS a b = limS (joinS (b.foldl ovstep a))) := by unfold Hid; rw [overS, if_pos ⟨hva, hvb⟩]
      have HA := Lib.hid (valid_asc hva)
      have HB0 := Lib.hid (valid_asc hvb)
      have HV := Lib.hid hva
      have HW := Lib.hid hvb
      clear hva hvb
      go_enter Try.func27, Try.ntmps27
      go_wp2_with fail
      refine (rvalid_at p n c a true _ HL hn HI.out HV).mono ?_
      rintro e w1 ⟨rfl, hb1⟩
      have HB := Lib.hid hb1
      have HJ1 := Lib.hid (HJ.out.below hb1)
      clear hb1
      go_wp2_with fail
      refine (rvalid_at q m d b true _ HM hmm HJ1.out HW).mono ?_
      rintro e w2 ⟨rfl, hb2⟩
      have HB2 := Lib.hid (HB.out.trans (hb2.mono HB.out.size))
      clear hb2 HB HJ1
      go_wp2_with (at_builtin; refine wpList_append_spans (.const (.slice none 0 0)) (.tmp 18) rfl rfl w.heap.size (.slice none 0 0) [] rfl (Spans.nil _ _) p n c a HL.out rfl (HI.out.below HB2.out) (by have := HL.out; simp; omega) HB2.out.size ?_; intro v3 w3 ho3 hg3)
      rw [List.nil_append] at ho3
      have HO3 := Lib.hid ho3
      have HB3 := Lib.hid (HB2.out.grown hg3 HB2.out.size (by simp [Value.ownBlock]))
      clear ho3 hg3 HB2
      go_loopw [6, 22] (fun v i wr => ∃ k : Nat, k ≤ m ∧ i = .int .i64 k ∧ Hid (Spans wr w.heap.size v ((b.take k).foldl ovstep a)) ∧ Hid (Below w.heap.size w wr)) (fun _ i _ => m - (intOf i).toNat)
      case atStart => exact ⟨0, Nat.zero_le _, rfl, HO3, HB3⟩
      case round =>
        clear HO3 HB3
        obtain ⟨k, hk, rfl, ho, hbel⟩ := hrel
        obtain ⟨wo, rfl⟩ : ∃ wo : World, wo = wr := ⟨_, rfl⟩
        have HX := Lib.hid (ov_take HA.out HB0.out k)
        by_cases hlt : k < m
        · have hkl : k < b.length := by rw [HM.out]; exact hlt
          obtain ⟨b1, off, rfl, hc1, hc2, hc3⟩ := (HJ.out.below hbel.out) k hkl
          obtain ⟨a1, a2, a3⟩ := asc_getD HB0.out k hkl
          have hst := ov_snoc a b k hkl
          have hX2 := ov_take HA.out HB0.out (k + 1)
          obtain ⟨⟨f, t, v⟩, hs⟩ : ∃ s, b.getD k sp0 = s := ⟨_, rfl⟩
          rw [hs] at hc1 hc2 hc3 a1 a2 a3 hst
          simp only at hc1 hc2 hc3 a1 a2 a3
          obtain ⟨X, hX⟩ : ∃ X, (b.take k).foldl ovstep a = X := ⟨_, rfl⟩
          rw [hX] at ho HX hst
          have hst2 : (b.take (k + 1)).foldl ovstep a = beforeS f X ++ [(f, t, v)] ++ afterS t X := hst
          have HST := Lib.hid hst2
          have hXl : X.length ≤ 1114112 := asc_length HX.out
          have HBL := Lib.hid (before_length f X)
          have HAL := Lib.hid (after_length t X)
          clear hs hst hst2 hX hX2 HX
          obtain ⟨px, cx, rfl, hix⟩ := ho.out.inn
          go_wp2
          have hC := Cur.new wo f t v 42
          have hO := ho.out.alloc (.cells #[.int .i64 f, .int .i64 t, .int .i64 v] 42)
          have hIx := hix.alloc (.cells #[.int .i64 f, .int .i64 t, .int .i64 v] 42)
          have hBl := hbel.out.alloc hbel.out.size (.cells #[.int .i64 f, .int .i64 t, .int .i64 v] 42)
          generalize wo.alloc (.cells #[.int .i64 f, .int .i64 t, .int .i64 v] 42) = W0 at hC hO hBl hIx ⊢
          generalize wo.heap.size = g at hC ⊢
          have HC := Lib.hid hC
          have HO := Lib.hid hO
          have HIX := Lib.hid hIx
          have HBl := Lib.hid hBl
          have hgz := hC.2.2.2.2
          have hwz := hBl.size
          obtain ⟨k0, k1, k2, kf, _⟩ := hC
          clear hO hBl hIx hix hc1 hc2 hc3 ho hbel kf
          go_upto_region 7 with (fail)
          go_cut [9] (fun r wx => Hid (Spans wx w.heap.size r (beforeS f X ++ [(f, t, v)])) ∧ Hid (SpIn wx px X) ∧ Hid (Below w.heap.size w wx) ∧ Hid (wx.cell? ⟨g, 1, none⟩ = some (.int .i64 t)))
          case first =>
            go_region_held3 (fun w' => w'.cell? ⟨g, 0, none⟩ = some (.int .i64 f) ∧ w'.cell? ⟨g, 1, none⟩ = some (.int .i64 t) ∧ w'.cell? ⟨g, 2, none⟩ = some (.int .i64 v))
              (first
                | go_keep
                | (go_split_ands
                   refine ⟨?_, ?_, ?_⟩
                   · (exact (hg6.cell (a := ⟨g, 0, none⟩) (by assumption) (fun e => by have h9 := hv5 _ e.symm; simp only at h9; omega)))
                   · (exact (hg6.cell (a := ⟨g, 1, none⟩) (by assumption) (fun e => by have h9 := hv5 _ e.symm; simp only at h9; omega)))
                   · (exact (hg6.cell (a := ⟨g, 2, none⟩) (by assumption) (fun e => by have h9 := hv5 _ e.symm; simp only at h9; omega))))
                | (go_split_ands
                   refine ⟨?_, ?_, ?_⟩
                   · (rw [hb5.cell (by simp; omega)]; assumption)
                   · (rw [hb5.cell (by simp; omega)]; assumption)
                   · (rw [hb5.cell (by simp; omega)]; assumption)))
              (first
                | (refine step_append_spans_at (by rfl) _ _ (by rfl) W0.heap.size v5 (beforeS f X) (by rfl) (ho5.alloc _) ⟨w5.heap.size, 0, none⟩ 1 1 [(f, t, v)] rfl (by rfl) (one_new w5 f t v 42) (by have := HBL.out; simp; omega) (by show _ ≤ (w5.alloc _).heap.size; simp; omega) ?_; intro v6 w6 ho6 hg6 hn6; have hg7 : w5.grownBy w6 v5.ownBlock := grownBy_of_alloc hg6)
                | (refine step_append_spans_at (by rfl) _ _ (by rfl) W0.heap.size v5 (beforeS f X) (by rfl) ho5 ⟨W0.heap.size, 0, none⟩ 1 1 [(f, t, v)] rfl (by rfl) (SpIn.below (w := (W0.alloc _).drew) (one_new W0 f t v 42) hb5) (by have := HBL.out; simp; omega) hz5 ?_; intro v6 w6 ho6 hg6 hn6; have hg7 : w5.grownBy w6 v5.ownBlock := hg6)
                | (go_at_call 40; refine (before_any px X.length cx X f _ rfl (HIX.out.drewN 1) hXl a1 (by omega)).mono ?_; rintro e w5 ⟨v5, rfl, ho5, hb5⟩; have hB5 : Below W0.heap.size W0 w5 := ⟨hb5.os, hb5.tape, hb5.output, hb5.size, hb5.block⟩; have hz5 : W0.heap.size ≤ w5.heap.size := hB5.size; have hv5 : ∀ k, v5.ownBlock = some k → W0.heap.size ≤ k := ho5.base)
                | (go_at_call 40; refine (before_any px X.length cx X f _ rfl ((HIX.out.alloc _).drewN 1) hXl a1 (by omega)).mono ?_; rintro e w5 ⟨v5, rfl, ho5', hb5⟩; have ho5 := ho5'.mono (show W0.heap.size ≤ (W0.alloc _).heap.size by simp); have hB5 : Below W0.heap.size W0 w5 := below_of_alloc ⟨hb5.os, hb5.tape, hb5.output, hb5.size, hb5.block⟩; have hz5 : W0.heap.size ≤ w5.heap.size := hB5.size; have hv5 : ∀ k, v5.ownBlock = some k → W0.heap.size ≤ k := ho5.base))
            all_goals
              go_wp2_with fail
              go_meet
              refine ⟨ho6.mono HBl.out.size, SpIn.older HIX.out (HIX.out.below hB5) hg7 hv5, (HBl.out.trans (hB5.mono HBl.out.size)).grown hg7 (Nat.le_trans HBl.out.size hz5) (fun k hk => Nat.le_trans HBl.out.size (hv5 k hk)), ?_⟩
              exact hg7.cell (a := ⟨g, 1, none⟩) ((hB5.cell (p := ⟨g, 1, none⟩) hgz).trans k1) (fun e => by have h9 := hv5 _ e.symm; simp only at h9; omega)
          case rest =>
            obtain ⟨ho9, hi9, hb9, hc9⟩ := hcut
            have k1' := hc9.out
            clear k0 k1 k2
            go_wp2_with fail
            refine (after_any px X.length cx X t _ rfl hi9.out hXl (by omega) a3).mono ?_
            rintro e w10 ⟨v10, rfl, ho10, hb10⟩
            obtain ⟨p10, c10, rfl, hi10⟩ := ho10.inn
            have HO9 := Lib.hid (ho9.out.below hb10)
            have HI10 := Lib.hid hi10
            have HB10 := Lib.hid (hb9.out.trans (hb10.mono hb9.out.size))
            clear ho10 hb10 hi10 k1'
            go_wp2_with (at_builtin; refine wpList_append_spans (.tmp 33) (.tmp 37) rfl rfl w.heap.size _ (beforeS f X ++ [(f, t, v)]) rfl HO9.out p10 _ c10 (afterS t X) rfl rfl HI10.out (by have := HBL.out; have := HAL.out; simp; omega) HB10.out.size ?_; intro v11 w11 ho11 hg11)
            have HO11 := Lib.hid ho11
            have HB11 := Lib.hid (HB10.out.grown hg11 HB10.out.size HO9.out.base)
            clear ho11 hg11
            go_wp2
            go_roundw
            case rel => exact ⟨k + 1, by omega, by go_num, by rw [HST.out]; exact HO11, HB11⟩
            case measure => simp [intOf]; omega
        · obtain rfl : k = m := by omega
          have HT : Hid (b.take k = b) := by unfold Hid; rw [List.take_of_length_le (Nat.le_of_eq HM.out)]
          rw [HT.out] at ho HX
          obtain ⟨X, hX⟩ : ∃ X, b.foldl ovstep a = X := ⟨_, rfl⟩
          rw [hX] at ho HX HF
          obtain ⟨px, cx, rfl, hix⟩ := ho.out.inn
          have HIX := Lib.hid hix
          have HN := Lib.hid (asc_length (join_asc HX.out))
          clear hX hix
          go_wp2_with fail
          refine (merged_any px _ cx X _ rfl HIX.out HX.out).mono ?_
          rintro e w6 ⟨v6, rfl, ho6, hb6⟩
          obtain ⟨p6, c6, rfl, _⟩ := ho6.inn
          have HO6 := Lib.hid (ho6.mono hbel.out.size)
          have HB6 := Lib.hid (hbel.out.trans (hb6.mono hbel.out.size))
          clear ho6 hb6
          have hJL := HN.out
          by_cases hbig : 256 < (joinS X).length
          · have HG := Lib.hid (limS_big hbig)
            go_wp2
            go_ret2
            rw [HF.out, HG.out]
            exact ⟨⟨_, rfl, Spans.nil _ _⟩, HB6.out⟩
          · have HG := Lib.hid (limS_ok (l := joinS X) (by omega))
            go_wp2
            go_ret2
            rw [HF.out, HG.out]
            exact ⟨⟨_, rfl, HO6.out⟩, HB6.out⟩

end Go.Proofs.Ytkapjihjbflliaa
