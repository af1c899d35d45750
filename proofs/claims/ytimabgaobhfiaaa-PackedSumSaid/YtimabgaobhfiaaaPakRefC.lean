/-
  The references PutList and PutSpans.
-/
import Derived.Test.YtimabgaobhfiaaaPakC
import Derived.Test.YtimabgaobhfiaaaPakRefA
import Derived.Test.YtimabgaobhfiaaaRanRefChk
import Derived.Test.YtimabgaobhfiaaaRanAppAt
import Derived.Test.YtimabgaobhfiaaaPakD
namespace Go.Proofs.Ytimabgaobhfiaaa
open Go.RowKit

theorem put_size (b : ByteArray) (z : Int) : (b ++ putB z).size ≤ b.size + 10 := by
  have := (putB_size z).2
  rw [ByteArray.size_append]; omega

set_option maxRecDepth 100000 in
set_option maxHeartbeats 4000000 in
theorem rputList_any (b : ByteArray) (p : Option Addr) (n c : Nat) (l : List Int) (X : ByteArray) (er : Int) (w : World) (hs : b.size ≤ 140737488351232) (hl : l.length = n) (hn : n ≤ maxLen) (hin : IntsIn w p l) (hX : Hid (putListS b l = (X, er))) :
    Calls Try.prog 15 #[.string b, .slice p n c] w fun e w' => e = .returned (.tuple #[.string X, .int .i64 er]) ∧ Below w.heap.size w w' := by
  unfold maxLen at hn
  have HI := Lib.hid hin
  have HL := Lib.hid hl
  clear hin hl
  by_cases hbig : 4096 < n
  · have hE := hX.out
    rw [putList_long (by rw [HL.out]; exact hbig)] at hE
    injection hE with e1 e2
    subst e1; subst e2
    go_enter Try.func15, Try.ntmps15
    go_wp2
    go_ret2
    exact ⟨rfl, Below.refl _ _⟩
  have hn2 : n ≤ 4096 := by omega
  have HK : Hid (IsI (n : Int)) := isI_small (by omega) (by omega)
  have HQ0 : Hid (putLF (b ++ putB (n : Int)) 0 (l.drop 0) = (X, er)) := by
    have := hX.out
    rw [putListS, if_neg (by rw [HL.out]; omega), HL.out] at this
    exact this
  have hS0 := put_size b (n : Int)
  obtain ⟨S0, hS⟩ : ∃ S, b ++ putB (n : Int) = S := ⟨_, rfl⟩
  rw [hS] at HQ0 hS0
  have HS0 := Lib.hid hS
  clear hbig hS
  go_enter Try.func15, Try.ntmps15
  go_wp2_with fail
  refine (rputInt_any b S0 (n : Int) _ (by omega) HK.out HS0).mono ?_
  rintro e w1 ⟨rfl, hb1⟩
  have HB1 := Lib.hid hb1
  clear hb1
  go_wp2
  go_loopw [6, 7, 19] (fun sv lv i wr => ∃ (j : Nat) (last : Int) (S : ByteArray), j ≤ n ∧ i = .int .i64 j ∧ sv = .string S ∧ lv = .int .i64 last ∧ -1073741824 ≤ last ∧ last ≤ 1073741824 ∧ S.size ≤ b.size + 10 + 10 * j ∧ Hid (putLF S last (l.drop j) = (X, er)) ∧ Hid (Below w.heap.size w wr)) (fun _ _ i _ => n - (intOf i).toNat)
  case atStart => exact ⟨0, 0, S0, Nat.zero_le _, rfl, rfl, rfl, by omega, by omega, by omega, HQ0, HB1⟩
  case round =>
    clear HQ0 HB1 hS0 HS0
    obtain ⟨j, last, S, hj, rfl, rfl, rfl, hl0, hl1, hS, hEq, hbel⟩ := hrel
    by_cases hlt : j < n
    · have hjl : j < l.length := by rw [HL.out]; exact hlt
      obtain ⟨g, off, rfl, hc⟩ := (HI.out.below hbel.out) j hjl
      have hdr := drop_cons_int l j hjl
      obtain ⟨v, hv⟩ : ∃ v, l.getD j 0 = v := ⟨_, rfl⟩
      rw [hv] at hc hdr
      have hEq2 := hEq.out
      rw [hdr, putLF] at hEq2
      cases hm : modB v with
      | true =>
        rw [if_pos hm] at hEq2
        obtain ⟨hv0, hv1⟩ := modB_iff.1 hm
        have HM := Lib.hid hm
        have HV : Hid (IsI (v - last)) := isI_small (by omega) (by omega)
        have hS2 := put_size S (v - last)
        obtain ⟨S2, hS3⟩ : ∃ S2, S ++ putB (v - last) = S2 := ⟨_, rfl⟩
        rw [hS3] at hEq2 hS2
        have HQ := Lib.hid hEq2
        have HS3 := Lib.hid hS3
        clear hm hv hdr hEq hEq2 hS3
        go_wp2_with fail
        refine (moderate_at v true _ HM).mono ?_
        rintro e w2 ⟨rfl, rfl⟩
        go_wp2_with fail
        refine (rputInt_any S S2 (v - last) _ (by omega) HV.out HS3).mono ?_
        rintro e w2 ⟨rfl, hb2⟩
        have HB2 := Lib.hid (hbel.out.trans (hb2.mono hbel.out.size))
        clear hb2
        go_wp2
        go_roundw
        case rel => exact ⟨j + 1, v, S2, by omega, by go_num, rfl, rfl, hv0, hv1, by omega, HQ, HB2⟩
        case measure => simp [intOf]; omega
      | false =>
        rw [if_neg (by rw [hm]; simp)] at hEq2
        injection hEq2 with e1 e2
        subst e1; subst e2
        have HM := Lib.hid hm
        clear hm hv hdr hEq
        go_wp2_with fail
        refine (moderate_at v false _ HM).mono ?_
        rintro e w2 ⟨rfl, rfl⟩
        go_wp2
        go_ret2
        exact ⟨rfl, hbel.out⟩
    · obtain rfl : j = n := by omega
      have hEq2 := hEq.out
      rw [List.drop_of_length_le (Nat.le_of_eq HL.out), putLF] at hEq2
      injection hEq2 with e1 e2
      subst e1; subst e2
      clear hEq
      go_wp2
      go_ret2
      exact ⟨rfl, hbel.out⟩

theorem three_below {w w' : World} {g : Nat} {a b c : Value} (h : w.cell? ⟨g, 0, none⟩ = some a ∧ w.cell? ⟨g, 1, none⟩ = some b ∧ w.cell? ⟨g, 2, none⟩ = some c) (hb : Below w.heap.size w w') :
    w'.cell? ⟨g, 0, none⟩ = some a ∧ w'.cell? ⟨g, 1, none⟩ = some b ∧ w'.cell? ⟨g, 2, none⟩ = some c := by
  obtain ⟨h1, h2, h3⟩ := h
  have hlt := World.block_lt_of_cell? w _ h1
  exact ⟨(hb.cell (p := ⟨g, 0, none⟩) hlt).trans h1, (hb.cell (p := ⟨g, 1, none⟩) hlt).trans h2, (hb.cell (p := ⟨g, 2, none⟩) hlt).trans h3⟩

set_option maxRecDepth 100000 in
set_option maxHeartbeats 4000000 in
theorem rputSpans_any (b : ByteArray) (p : Option Addr) (n c : Nat) (l : List Sp) (X : ByteArray) (er : Int) (w : World) (hs : b.size ≤ 140737488351232) (hl : l.length = n) (hn : n ≤ maxLen) (hin : SpIn w p l) (hX : Hid (putSpansS b l = (X, er))) :
    Calls Try.prog 17 #[.string b, .slice p n c] w fun e w' => e = .returned (.tuple #[.string X, .int .i64 er]) ∧ Below w.heap.size w w' := by
  have HI := Lib.hid hin
  have HL := Lib.hid hl
  clear hin hl
  cases hv : validS l with
  | false =>
    have hE := hX.out
    rw [putSpans_inv hv] at hE
    injection hE with e1 e2
    subst e1; subst e2
    have HC := Lib.hid hv
    clear hv
    go_enter Try.func17, Try.ntmps17
    go_wp2_with fail
    refine (rvalid_at p n c l false _ HL hn HI.out HC).mono ?_
    rintro e w1 ⟨rfl, hb1⟩
    have HB1 := Lib.hid hb1
    clear hb1
    go_wp2
    go_ret2
    exact ⟨rfl, HB1.out⟩
  | true =>
  have hn2 : n ≤ 256 := by rw [← HL.out]; exact valid_len hv
  have HC := Lib.hid hv
  have HAsc := Lib.hid (valid_asc hv)
  have HK : Hid (IsI (n : Int)) := isI_small (by omega) (by omega)
  have HQ0 : Hid (putSF (b ++ putB (n : Int)) 0 (l.drop 0) = (X, er)) := by
    have := hX.out
    rw [putSpansS, if_pos hv, HL.out] at this
    exact this
  have hS0 := put_size b (n : Int)
  obtain ⟨S0, hS⟩ : ∃ S, b ++ putB (n : Int) = S := ⟨_, rfl⟩
  rw [hS] at HQ0 hS0
  have HS0 := Lib.hid hS
  clear hv hS
  go_enter Try.func17, Try.ntmps17
  go_wp2_with fail
  refine (rvalid_at p n c l true _ HL hn HI.out HC).mono ?_
  rintro e w1 ⟨rfl, hb1⟩
  have HB1 := Lib.hid hb1
  clear hb1
  go_wp2_with fail
  refine (rputInt_any b S0 (n : Int) _ (by omega) HK.out HS0).mono ?_
  rintro e w2 ⟨rfl, hb2⟩
  have HB2 := Lib.hid (HB1.out.trans (hb2.mono HB1.out.size))
  clear hb2 HB1
  go_wp2
  go_loopw [6, 7, 19] (fun sv lv i wr => ∃ (j : Nat) (last : Int) (S : ByteArray), j ≤ n ∧ i = .int .i64 j ∧ sv = .string S ∧ lv = .int .i64 last ∧ 0 ≤ last ∧ last ≤ 1114111 ∧ S.size ≤ b.size + 10 + 30 * j ∧ Hid (putSF S last (l.drop j) = (X, er)) ∧ Hid (Below w.heap.size w wr)) (fun _ _ i _ => n - (intOf i).toNat)
  case atStart => exact ⟨0, 0, S0, Nat.zero_le _, rfl, rfl, rfl, by omega, by omega, by omega, HQ0, HB2⟩
  case round =>
    clear HQ0 HB2 hS0 HS0
    obtain ⟨j, last, S, hj, rfl, rfl, rfl, hl0, hl1, hS, hEq, hbel⟩ := hrel
    by_cases hlt : j < n
    · have hjl : j < l.length := by rw [HL.out]; exact hlt
      obtain ⟨g, off, rfl, hc1, hc2, hc3⟩ := (HI.out.below hbel.out) j hjl
      have hdr := drop_cons_sp l j hjl
      obtain ⟨a1, a2, a3⟩ := asc_getD HAsc.out j hjl
      obtain ⟨⟨f, t, v⟩, hv⟩ : ∃ s, l.getD j sp0 = s := ⟨_, rfl⟩
      rw [hv] at hc1 hc2 hc3 hdr a1 a2 a3
      simp only at hc1 hc2 hc3 a1 a2 a3
      have hEq2 := hEq.out
      rw [hdr, putSF] at hEq2
      simp only at hEq2
      cases hm : modB v with
      | true =>
        rw [if_pos hm] at hEq2
        obtain ⟨hv0, hv1⟩ := modB_iff.1 hm
        have HM := Lib.hid hm
        have HV1 : Hid (IsI (f - last)) := isI_small (by omega) (by omega)
        have HV2 : Hid (IsI (t - f)) := isI_small (by omega) (by omega)
        have HV3 : Hid (IsI v) := isI_small (by omega) (by omega)
        have hs2 := put_size S (f - last)
        obtain ⟨S2, hS2⟩ : ∃ S2, S ++ putB (f - last) = S2 := ⟨_, rfl⟩
        rw [hS2] at hEq2 hs2
        have hs3 := put_size S2 (t - f)
        obtain ⟨S3, hS3⟩ : ∃ S3, S2 ++ putB (t - f) = S3 := ⟨_, rfl⟩
        rw [hS3] at hEq2 hs3
        have hs4 := put_size S3 v
        obtain ⟨S4, hS4⟩ : ∃ S4, S3 ++ putB v = S4 := ⟨_, rfl⟩
        rw [hS4] at hEq2 hs4
        have HQ := Lib.hid hEq2
        have HS2 := Lib.hid hS2
        have HS3 := Lib.hid hS3
        have HS4 := Lib.hid hS4
        have hB0 := hbel.out.alloc hbel.out.size (.cells #[.int .i64 f, .int .i64 t, .int .i64 v] 49)
        have hC0 := Cur.new wr f t v 49
        clear hm hv hdr hEq hEq2 hS2 hS3 hS4
        go_wp2_with fail
        refine (moderate_at v true _ HM).mono ?_
        rintro e w2 ⟨rfl, rfl⟩
        go_wp2
        generalize wr.alloc (.cells #[.int .i64 f, .int .i64 t, .int .i64 v] 49) = W0 at hB0 hC0 ⊢
        generalize wr.heap.size = g0 at hC0 ⊢
        have HB0 := Lib.hid hB0
        obtain ⟨k0, k1, k2, _, kz⟩ := hC0
        have hw1 : IntKind.i64.wrap (f - last) = f - last := IntWalk.i64_in _ (by omega)
        have hw2 : IntKind.i64.wrap (t - f) = t - f := IntWalk.i64_in _ (by omega)
        clear hB0 hc1 hc2 hc3 hbel
        go_region_held3 (fun w' => w'.cell? ⟨g0, 0, none⟩ = some (.int .i64 f) ∧ w'.cell? ⟨g0, 1, none⟩ = some (.int .i64 t) ∧ w'.cell? ⟨g0, 2, none⟩ = some (.int .i64 v))
          (first
            | go_keep
            | (refine three_below ?_ hb5; assumption)
            | (refine three_below ?_ hb4; assumption)
            | (refine three_below ?_ hb3; assumption))
          (first
            | (go_at_call 19; (with_reducible refine (rputInt_any S S2 (f - last) _ (by omega) HV1.out HS2).mono ?_); rintro e w3 ⟨rfl, hb3⟩)
            | (go_at_call 19; (with_reducible refine (rputInt_any S2 S3 (t - f) _ (by omega) HV2.out HS3).mono ?_); rintro e w4 ⟨rfl, hb4⟩)
            | (go_at_call 19; (with_reducible refine (rputInt_any S3 S4 v _ (by omega) HV3.out HS4).mono ?_); rintro e w5 ⟨rfl, hb5⟩))
        have hB3 := (below_drewN_sp HB0.out 1).trans (hb3.mono HB0.out.size)
        have hB4 := hB3.trans (hb4.mono hB3.size)
        have hB5 := hB4.trans (hb5.mono hB4.size)
        have HB5 := Lib.hid hB5
        have k1z : w5.cell? ⟨g0, 1, none⟩ = some (.int .i64 t) := (three_below (three_below (three_below (w := W0.drew) ⟨k0, k1, k2⟩ hb3) hb4) hb5).2.1
        clear hb3 hb4 hb5 hB3 hB4 hB5 k0 k1 k2 kz hw1 hw2 HB0
        go_wp2
        go_roundw
        case rel => exact ⟨j + 1, t, S4, by omega, by go_num, rfl, rfl, by omega, a3, by omega, HQ, HB5⟩
        case measure => simp [intOf]; omega
      | false =>
        rw [if_neg (by rw [hm]; simp)] at hEq2
        injection hEq2 with e1 e2
        subst e1; subst e2
        have HM := Lib.hid hm
        clear hm hv hdr hEq
        go_wp2_with fail
        refine (moderate_at v false _ HM).mono ?_
        rintro e w2 ⟨rfl, rfl⟩
        go_wp2
        go_ret2
        exact ⟨rfl, hbel.out.alloc hbel.out.size _⟩
    · obtain rfl : j = n := by omega
      have hEq2 := hEq.out
      rw [List.drop_of_length_le (Nat.le_of_eq HL.out), putSF] at hEq2
      injection hEq2 with e1 e2
      subst e1; subst e2
      clear hEq
      go_wp2
      go_ret2
      exact ⟨rfl, hbel.out⟩

end Go.Proofs.Ytimabgaobhfiaaa
