/-
  table.Encode.
-/
import Derived.Test.YtmkaclfjekjabaaGreatDoorQEncR
import Derived.Test.YtmkaclfjekjabaaGreatDoorPkN
import Derived.Test.YtmkaclfjekjabaaGreatDoorPkE
set_option linter.unusedSimpArgs false
set_option linter.unusedVariables false
namespace Go.Proofs.YtmkaclfjekjabaaGreatDoor
open Go Go.RowKit
set_option linter.unusedVariables false

/-- A builder that holds the bytes of s. -/
def Buf (B b : Nat) (s : ByteArray) (w : World) : Prop := BldAt B b (.pointer (some ⟨b, 0, none⟩)) (Lib.strCells s) w

theorem Buf.below {B b : Nat} {s : ByteArray} {w w' : World} (h : Buf B b s w) (hb : Below w.heap.size w w') : Buf B b s w' := by
  obtain ⟨hB, v, hbk, hown, hne⟩ := h
  have hlt : b < w.heap.size := Lib.BuilderAt.lt ⟨hB, v, hbk, hown, hne⟩
  exact ⟨hB, v, (hb.block b hlt).trans hbk, ownsRow_below hown hb, hne⟩

theorem strCells_append (a b : ByteArray) : Lib.strCells (a ++ b) = Lib.strCells a ++ Lib.strCells b := by simp [Lib.strCells]

theorem write_buf (B b : Nat) (s x X : ByteArray) (w : World) (h : Buf B b s w) (hX : Hid (s ++ x = X)) (hlen : X.size ≤ 140737488355328) (hBw : B ≤ w.heap.size) :
    Calls Tryz.prog 135 #[.pointer (some ⟨b, 0, none⟩), .string x] w fun e w' => (∃ v, e = .returned v) ∧ Buf B b X w' ∧ Below B w w' := by
  refine (bwrite_any B b (Lib.strCells s) x w (.inr h) (by rw [Lib.strCells_length]; rw [← hX.out, ByteArray.size_append] at hlen; omega) hBw).mono ?_
  rintro e w' ⟨rfl, h1, h2⟩
  refine ⟨⟨_, rfl⟩, ?_, h2⟩
  unfold Buf
  rw [← hX.out, strCells_append]
  exact h1

theorem write_new (B : Nat) (x : ByteArray) (w : World) (hB : w.heap.size = B) (hlen : x.size ≤ 140737488355328) :
    Calls Tryz.prog 135 #[.pointer (some ⟨B, 0, none⟩), .string x] (w.alloc (.cells #[.pointer none, .slice none 0 0] 120)) fun e w' => (∃ v, e = .returned v) ∧ Buf B B x w' ∧ Below B (w.alloc (.cells #[.pointer none, .slice none 0 0] 120)) w' := by
  subst hB
  refine (bwrite_any _ _ [] x _ (Lib.fresh_isBuilder _ _ w) (by simpa using hlen) (by simp)).mono ?_
  rintro e w' ⟨rfl, h1, h2⟩
  exact ⟨⟨_, rfl⟩, h1, h2⟩

theorem string_buf (B b : Nat) (s : ByteArray) (w : World) (h : Buf B b s w) (h0 : s.size ≠ 0) :
    Calls Tryz.prog 138 #[.pointer (some ⟨b, 0, none⟩)] w fun e w' => e = .returned (.string s) ∧ Below B w w' := by
  refine (bstring_any B b s.data.toList w (.inr h) ?_).mono ?_
  · intro e
    apply h0
    rw [← ByteArray.size_data, ← Array.length_toList, e]; rfl
  · rintro e w' ⟨rfl, h2⟩
    exact ⟨by simp, h2⟩

theorem accS_big (b : ByteArray) (L : List (List Sp)) : b.size ≤ (accS b L).size := by
  induction L generalizing b with
  | nil => exact Nat.le_refl _
  | cons l r ih => have := ih (b ++ encSp l); rw [ByteArray.size_append] at this; simp only [accS]; omega
theorem accR_big (b : ByteArray) (L : List Mp) : b.size ≤ (accR b L).size := by
  induction L generalizing b with
  | nil => exact Nat.le_refl _
  | cons l r ih => have := ih (b ++ encRow l); rw [ByteArray.size_append] at this; simp only [accR]; omega
theorem accM_big (b : ByteArray) (L : List (List Mp)) : b.size ≤ (accM b L).size := by
  induction L generalizing b with
  | nil => exact Nat.le_refl _
  | cons l r ih =>
    have h1 := ih (accR (b ++ putB l.length) l)
    have h2 := accR_big (b ++ putB l.length) l
    rw [ByteArray.size_append] at h2
    simp only [accM]; omega
theorem rowsB_big (T : Tb) : 4 ≤ (rowsB T).size := by
  have h1 := accM_big (accS sigB (spansT T)) (mpsT T)
  have h2 := accS_big sigB (spansT T)
  have h3 : sigB.size = 4 := rfl
  rw [rowsB, ByteArray.size_append]; omega

set_option maxRecDepth 100000 in
set_option maxHeartbeats 8000000 in
theorem encodeRows_any (x : TV) (T : Tb) (w : World) (hx : TabV w x T) (ho : EncOk T) :
    Calls Tryz.prog 82 #[x.agg] w fun e w' => e = .returned (.string (rowsB T)) ∧ Below w.heap.size w w' := by
  have HE := Lib.hid (Env.new hx)
  obtain ⟨pe, ce, he, hei, hel⟩ := hx.exc
  obtain ⟨ne, hne⟩ : ∃ n, T.exc.length = n := ⟨_, rfl⟩
  rw [hne] at he hel
  have HXE := Lib.hid he
  have HN := Lib.hid hne
  have HO := Lib.hid ho
  have HP := Lib.hid (rowsB_parts ho)
  clear hx hne hei he ho
  simp only [TV.agg]
  go_enter Tryz.func82, Tryz.ntmps82
  go_wp2_with fail
  obtain ⟨W0, hW0⟩ : ∃ W0, w.alloc (.cells #[x.a0, x.a1, x.a2, x.a3, x.a4, x.a5, x.a6, x.a7, x.a8, x.a9, x.a10, x.a11] 26) = W0 := ⟨_, rfl⟩
  have hB : w.heap.size + 1 = W0.heap.size := by rw [← hW0]; simp
  rw [show w.alloc (.cells (tabCells x) 26) = W0 from hW0] at HE
  rw [hW0]
  simp only [hB]
  refine (write_new W0.heap.size ⟨#[78, 68, 84, 49]⟩ W0 rfl (by decide)).mono ?_
  rintro e w1 ⟨⟨v0, rfl⟩, hbuf, hb⟩
  have hB1 : Below W0.heap.size W0 w1 := ((Below.refl _ W0).alloc (Nat.le_refl _) _).trans hb
  have HE1 := Lib.hid (HE.out.step hB1)
  have HB1 := Lib.hid hB1
  have HBF1 : Hid (Buf W0.heap.size W0.heap.size sigB w1) := hbuf
  clear hbuf hb hB1 hW0
  have hbx := HE1.out.box
  simp only [BoxT] at hbx
  obtain ⟨⟨k0, k1, k2, k3, k4, k5⟩, ⟨k6, k7, k8, k9, k10, k11⟩⟩ := hbx
  go_wp2_with fail
  refine (spanLists_any x T _ HE1.out.tab).mono ?_
  rintro e w2 ⟨rfl, hb2⟩
  have HB2 := Lib.hid (HB1.out.trans (hb2.mono HB1.out.size))
  have HBF2 := Lib.hid (HBF1.out.below hb2)
  clear hb2 k0 k1 k2 k3 k4 k5 k6 k7 k8 k9 k10 k11 HE1 HB1 HBF1
  simp only [seven]
  go_wp2
  go_loopw [19] (fun i wr => ∃ (k : Nat) (S : ByteArray), k ≤ 7 ∧ i = .int .i64 k ∧ Hid (S = accS sigB ((spansT T).take k)) ∧ Hid (Buf W0.heap.size W0.heap.size S wr) ∧ Hid (Below W0.heap.size W0 wr)) (fun i _ => 7 - (intOf i).toNat)
  case atStart => exact ⟨0, sigB, by omega, rfl, rfl, HBF2, HB2⟩
  case round =>
    clear HBF2 HB2
    obtain ⟨k, S, hk, rfl, hS, hbf, hbel⟩ := hrel
    by_cases hlt : k < 7
    · obtain ⟨p, n, c, l, hl, hln, hn, hin, hix⟩ := seven_at (HE.out.step hbel.out).tab k hlt
      have hput := (HO.out.s k hlt).1
      have hsz := HP.out.1 (k + 1) (by omega)
      rw [accS_take _ _ _ (by rw [spansT_len]; exact hlt), ← hS.out, hl] at hsz
      rw [hl] at hput
      obtain ⟨S1, hS1⟩ : ∃ S1, encSp l = S1 := ⟨_, rfl⟩
      obtain ⟨S2, hS2⟩ : ∃ S2, S ++ S1 = S2 := ⟨_, rfl⟩
      rw [hS1] at hput hsz
      rw [hS2] at hsz
      have HQ : Hid (putSpansS ⟨#[]⟩ l = (S1, 0)) := hput
      have HS : Hid (S2 = accS sigB ((spansT T).take (k + 1))) := by unfold Hid; rw [accS_take _ _ _ (by rw [spansT_len]; exact hlt), ← hS.out, hl, hS1, hS2]
      have HS2 := Lib.hid hS2
      have HI := Lib.hid hin
      have HLN := Lib.hid hln
      clear hput hl hln hin hS1 hS2
      go_wp2_with fail
      refine (putSpans_any ⟨#[]⟩ p n c l S1 0 _ (by decide) HLN.out (by unfold maxLen; omega) HI.out HQ).mono ?_
      rintro e w3 ⟨rfl, hb3⟩
      have HB3 := Lib.hid (hbel.out.trans (hb3.mono hbel.out.size))
      have HBF3 := Lib.hid (hbf.out.below hb3)
      clear hb3 hix
      go_wp2_with fail
      refine (write_buf _ _ S S1 S2 _ HBF3.out HS2 (by omega) HB3.out.size).mono ?_
      rintro e w4 ⟨⟨v4, rfl⟩, hbuf, hb4⟩
      have HB4 := Lib.hid (HB3.out.trans hb4)
      have HBF4 := Lib.hid hbuf
      clear hbuf hb4
      go_wp2
      go_roundw
      case rel => exact ⟨k + 1, S2, by omega, by go_num, HS, HBF4, HB4⟩
      case measure => simp [intOf]; omega
    · obtain rfl : k = 7 := by omega
      have HS7 : Hid (S = accS sigB (spansT T)) := by
        have := hS.out
        rwa [List.take_of_length_le (Nat.le_of_eq (spansT_len T))] at this
      have HE3 := Lib.hid (HE.out.step hbel.out)
      have hbx := HE3.out.box
      simp only [BoxT] at hbx
      obtain ⟨⟨k0, k1, k2, k3, k4, k5⟩, ⟨k6, k7, k8, k9, k10, k11⟩⟩ := hbx
      go_wp2_with fail
      refine (mappingLists_any x T _ HE3.out.tab).mono ?_
      rintro e w3 ⟨rfl, hb3⟩
      have HB3 := Lib.hid (hbel.out.trans (hb3.mono hbel.out.size))
      have HBF3 := Lib.hid (hbf.out.below hb3)
      clear hb3 k0 k1 k2 k3 k4 k5 k6 k7 k8 k9 k10 k11 HE3
      simp only [four]
      go_wp2
      go_loopw [32] (fun i wr => ∃ (k : Nat) (S : ByteArray), k ≤ 4 ∧ i = .int .i64 k ∧ Hid (S = accM (accS sigB (spansT T)) ((mpsT T).take k)) ∧ Hid (Buf W0.heap.size W0.heap.size S wr) ∧ Hid (Below W0.heap.size W0 wr)) (fun i _ => 4 - (intOf i).toNat)
      case atStart => exact ⟨0, S, by omega, rfl, HS7, HBF3, HB3⟩
      case round =>
        clear hS HS7 hbel hbf HBF3 HB3
        obtain ⟨k, S, hk, rfl, hS, hbf, hbel⟩ := hrel
        by_cases hlt4 : k < 4
        · obtain ⟨p, n, c, l, hl, hln, hn, hin, hix⟩ := four_at HE.out.tab k hlt4
          have hm := HO.out.m k hlt4
          have hz := HP.out.2.1 k (by omega)
          have hz2 := fun j => HP.out.2.2 k j hlt4
          have hacc := accM_take (accS sigB (spansT T)) (mpsT T) k (by rw [mpsT_len]; exact hlt4)
          rw [hl, hln] at hm hz2 hacc
          rw [← hS.out] at hz hz2 hacc
          obtain ⟨Sn, hSn⟩ : ∃ S, putB (n : Int) = S := ⟨_, rfl⟩
          obtain ⟨S1, hS1⟩ : ∃ S1, S ++ Sn = S1 := ⟨_, rfl⟩
          have hz1 := put_size S (n : Int)
          rw [hSn, hS1] at hz2 hacc hz1
          have HSn : Hid ((⟨#[]⟩ : ByteArray) ++ putB (n : Int) = Sn) := by unfold Hid; rw [hSn]; apply ByteArray.ext; simp
          have HS1 := Lib.hid hS1
          have HACC := Lib.hid hacc
          have HZ2 := Lib.hid hz2
          have HM := Lib.hid hm.2
          have hn256 := hm.1
          have HI := Lib.hid hin
          have HLN := Lib.hid hln
          clear hS1 hSn hacc hz2 hm hl hln hin
          go_wp2_with fail
          refine (putInt_any ⟨#[]⟩ Sn (n : Int) _ (by decide) (isI_small (by omega) (by omega)) HSn).mono ?_
          rintro e w4 ⟨rfl, hb4⟩
          have HB4 := Lib.hid (hbel.out.trans (hb4.mono hbel.out.size))
          have HBF4 := Lib.hid (hbf.out.below hb4)
          clear hb4 hix
          go_wp2_with fail
          refine (write_buf _ _ S Sn S1 _ HBF4.out HS1 (by omega) HB4.out.size).mono ?_
          rintro e w5 ⟨⟨v4, rfl⟩, hbuf, hb5⟩
          have HB5 := Lib.hid (HB4.out.trans hb5)
          have HBF5 := Lib.hid hbuf
          clear hbuf hb5 HB4 HBF4 hbel hbf
          go_wp2
          go_loopw [41] (fun i wr => ∃ (j : Nat) (S : ByteArray), j ≤ n ∧ i = .int .i64 j ∧ Hid (S = accR S1 (l.take j)) ∧ Hid (Buf W0.heap.size W0.heap.size S wr) ∧ Hid (Below W0.heap.size W0 wr)) (fun i _ => n - (intOf i).toNat)
          case atStart => exact ⟨0, S1, Nat.zero_le _, rfl, rfl, HBF5, HB5⟩
          case round =>
            clear hS hz HBF5 HB5 HS1
            obtain ⟨j, S, hj, rfl, hS, hbf, hbel⟩ := hrel
            by_cases hlt5 : j < n
            · have hjl : j < l.length := by rw [HLN.out]; exact hlt5
              obtain ⟨b, off, v, rfl, hc1, hc2, hv⟩ := (HI.out.below hbel.out) j hjl
              obtain ⟨m1, m2, m3, m4⟩ := HM.out j hlt5
              have hz := HZ2.out (j + 1) hlt5
              have hacc := accR_take S1 l j hjl
              rw [← hS.out] at hacc
              rw [hacc] at hz
              obtain ⟨⟨f, tl⟩, hs⟩ : ∃ s, l.getD j mp0 = s := ⟨_, rfl⟩
              rw [hs] at hc1 hv m1 m2 m3 m4 hacc hz
              simp only at hc1 hv m1 m2 m3 m4
              obtain ⟨pv, cv, rfl, hvi, hvl⟩ := hv
              have hput := fun b => putList_ok tl (by omega) m4 b
              obtain ⟨nt, hnt⟩ : ∃ n, tl.length = n := ⟨_, rfl⟩
              rw [hnt] at hc2 m3
              obtain ⟨S2, hS2⟩ : ∃ S2, putB f = S2 := ⟨_, rfl⟩
              obtain ⟨S3, hS3⟩ : ∃ S3, S2 ++ encLi tl = S3 := ⟨_, rfl⟩
              obtain ⟨S4, hS4⟩ : ∃ S4, S ++ S3 = S4 := ⟨_, rfl⟩
              have hz3 := (putB_size f).2
              rw [hS2] at hz3
              have HS2 : Hid ((⟨#[]⟩ : ByteArray) ++ putB f = S2) := by unfold Hid; rw [hS2]; apply ByteArray.ext; simp
              have HQ : Hid (putListS S2 tl = (S3, 0)) := by unfold Hid; rw [hput, hS3]
              rw [encRow, hS2, hS3, hS4] at hacc hz
              have HS3 : Hid (S4 = accR S1 (l.take (j + 1))) := hacc.symm
              have HS4 := Lib.hid hS4
              have HNT := Lib.hid hnt
              have hB0 := hbel.out.alloc hbel.out.size (.cells #[.int .i64 f, .slice pv nt cv] 69)
              have hP0 := pair_new wr (.int .i64 f) (.slice pv nt cv) 69
              have hba : Below wr.heap.size wr (wr.alloc (.cells #[.int .i64 f, .slice pv nt cv] 69)) := (Below.refl wr.heap.size wr).alloc (Nat.le_refl _) _
              have HVI := Lib.hid (hvi.below hba)
              have HBFa := Lib.hid (hbf.out.below hba)
              clear hput hacc hS2 hS3 hS4 hnt hs hvi hba
              go_wp2_with fail
              generalize wr.alloc (.cells #[.int .i64 f, .slice pv nt cv] 69) = W1 at hB0 hP0 HVI HBFa ⊢
              generalize wr.heap.size = g0 at hP0 ⊢
              have HB0 := Lib.hid hB0
              obtain ⟨q0, q1⟩ := hP0
              clear hB0 hc1 hc2 hbel hbf
              go_region_held3 (fun w' => w'.cell? ⟨g0, 0, none⟩ = some (.int .i64 f) ∧ w'.cell? ⟨g0, 1, none⟩ = some (.slice pv nt cv))
                (first
                  | go_keep
                  | (refine pair_below ?_ hb6; assumption)
                  | (refine pair_below ?_ hb5; assumption))
                (first
                  | (go_at_call 83; (with_reducible refine (putInt_any ⟨#[]⟩ S2 f _ (by decide) (isI_small (by omega) (by omega)) HS2).mono ?_); rintro e w5 ⟨rfl, hb5⟩)
                  | (go_at_call 137; (with_reducible refine (putList_any S2 pv nt cv tl S3 0 _ (by omega) HNT.out (by unfold maxLen; omega) ((HVI.out.below (drew_one _)).below hb5) HQ).mono ?_); rintro e w6 ⟨rfl, hb6⟩))
              all_goals
                have hB5 := (below_drewN_sp HB0.out 1).trans (hb5.mono HB0.out.size)
                have HB6 := Lib.hid (hB5.trans (hb6.mono hB5.size))
                have HBF6 := Lib.hid (((HBFa.out.below (drew_one _)).below hb5).below hb6)
                clear hb5 hb6 hB5 HVI HB0 HBFa q0 q1
                go_wp2_with fail
                refine (write_buf _ _ S S3 S4 _ HBF6.out HS4 (by omega) HB6.out.size).mono ?_
                rintro e w7 ⟨⟨v4, rfl⟩, hbuf, hb7⟩
                have HB7 := Lib.hid (HB6.out.trans hb7)
                have HBF7 := Lib.hid hbuf
                clear hbuf hb7 HB6 HBF6
                go_wp2
                go_roundw
                case rel => exact ⟨j + 1, S4, by omega, by go_num, HS3, HBF7, HB7⟩
                case measure => simp [intOf]; omega
            · obtain rfl : j = n := by omega
              have HS5 : Hid (S = accM (accS sigB (spansT T)) ((mpsT T).take (k + 1))) := by
                unfold Hid
                have := hS.out
                rw [List.take_of_length_le (Nat.le_of_eq HLN.out)] at this
                rw [HACC.out, this]
              go_wp2
              refine ⟨?_, ?measure⟩
              · iterate 30 apply Exists.intro
                refine ⟨⟨k + 1, S, by omega, by go_num, HS5, hbf, hbel⟩, rfl⟩
              case measure => simp [intOf]; omega
        · obtain rfl : k = 4 := by omega
          have hz := HP.out.2.1 4 (by omega)
          rw [← hS.out] at hz
          have hM4 : S = accM (accS sigB (spansT T)) (mpsT T) := by
            have := hS.out
            rwa [List.take_of_length_le (Nat.le_of_eq (mpsT_len T))] at this
          have HE5 := Lib.hid (HE.out.step hbel.out)
          have k10 := HE5.out.at10
          rw [HXE.out] at k10
          have hlo := HO.out.exc
          have hsx := encLi_size T.exc
          rw [HN.out] at hsx
          have hne : ne ≤ 256 := by have := hlo.1; rw [HN.out] at this; exact this
          obtain ⟨S1, hS1⟩ : ∃ S1, encLi T.exc = S1 := ⟨_, rfl⟩
          have hput := putList_ok _ hlo.1 hlo.2 ⟨#[]⟩
          rw [hS1] at hsx hput
          have HQ : Hid (putListS ⟨#[]⟩ T.exc = (S1, 0)) := by unfold Hid; rw [hput]; congr 1
          obtain ⟨S2, hS2⟩ : ∃ S2, S ++ S1 = S2 := ⟨_, rfl⟩
          have hR : S2 = rowsB T := by rw [rowsB, ← hM4, hS1, hS2]
          have hsz2 : S2.size ≤ 310000 := by rw [← hS2, ByteArray.size_append]; omega
          have hbg := rowsB_big T
          rw [← hR] at hbg
          have HS2 := Lib.hid hS2
          have HXI : Hid (IntsIn wr pe T.exc) := by
            have := HE5.out.tab.exc
            obtain ⟨p', c', h1, h2, _⟩ := this
            rw [HXE.out] at h1
            simp only [Value.slice.injEq] at h1
            rw [h1.1]; exact h2
          have HRR := Lib.hid hR.symm
          clear hS hS1 hS2 hR hM4 hlo hsx hput HE5
          go_wp2_with fail
          refine (putList_any ⟨#[]⟩ pe ne ce T.exc S1 0 _ (by decide) HN.out (by unfold maxLen; omega) HXI.out HQ).mono ?_
          rintro e w4 ⟨rfl, hb4⟩
          have HB4 := Lib.hid (hbel.out.trans (hb4.mono hbel.out.size))
          have HBF4 := Lib.hid (hbf.out.below hb4)
          clear hb4 k10
          go_wp2_with fail
          refine (write_buf _ _ S S1 S2 _ HBF4.out HS2 (by omega) HB4.out.size).mono ?_
          rintro e w5 ⟨⟨v4, rfl⟩, hbuf, hb5⟩
          have HB5 := Lib.hid (HB4.out.trans hb5)
          have HBF5 := Lib.hid hbuf
          clear hbuf hb5
          go_wp2_with fail
          refine (string_buf _ _ S2 _ HBF5.out (by omega)).mono ?_
          rintro e w6 ⟨rfl, hb6⟩
          have HB6 := Lib.hid (HE.out.bel.trans ((HB5.out.trans hb6).mono HE.out.bel.size))
          clear hb6
          go_wp2
          go_ret
          rw [HRR.out]
          exact ⟨rfl, HB6.out⟩

set_option maxRecDepth 100000 in
set_option maxHeartbeats 8000000 in
theorem encode_any (x : TV) (T : Tb) (X : ByteArray) (er : Int) (w : World) (hx : TabV w x T) (hr : Rsv w) (hX : Hid (encT T = (X, er))) :
    Calls Tryz.prog 26 #[x.agg] w fun e w' => e = .returned (.tuple #[.string X, .int .i64 er]) ∧ Below w.heap.size w w' := by
  have HE := Lib.hid (Env.new hx)
  have HR := Lib.hid (hr.below (Env.new hx).bel)
  clear hx hr
  obtain ⟨V, hV⟩ : ∃ V, Hid (checkT T = V) := ⟨_, rfl⟩
  simp only [TV.agg]
  by_cases hv0 : V = 0
  case neg =>
    have hE := hX.out
    rw [encT_bad (by rw [hV.out]; exact hv0)] at hE
    injection hE with e1 e2
    subst e1; subst e2
    go_enter Tryz.func26, Tryz.ntmps26
    go_wp2_with fail
    refine (check_tab_at x T V _ HE.out.tab HR.out hV).mono ?_
    rintro e w1 ⟨rfl, hb⟩
    have HE1 := Lib.hid (HE.out.step hb)
    clear hb
    go_wp2
    go_ret2
    exact ⟨rfl, HE1.out.bel⟩
  case pos =>
  subst hv0
  have HO := Lib.hid (enc_ok hV.out)
  have HP := Lib.hid (rowsB_parts HO.out)
  go_enter Tryz.func26, Tryz.ntmps26
  go_wp2_with fail
  refine (check_tab_at x T 0 _ HE.out.tab HR.out hV).mono ?_
  rintro e w1 ⟨rfl, hb⟩
  have HE1 := Lib.hid (HE.out.step hb)
  clear hb
  have hbx := HE1.out.box
  simp only [BoxT] at hbx
  obtain ⟨⟨k0, k1, k2, k3, k4, k5⟩, ⟨k6, k7, k8, k9, k10, k11⟩⟩ := hbx
  go_wp2_with fail
  refine (encodeRows_any x T _ HE1.out.tab HO.out).mono ?_
  rintro e w2 ⟨rfl, hb2⟩
  have HE2 := Lib.hid (HE1.out.step hb2)
  clear hb2 k0 k1 k2 k3 k4 k5 k6 k7 k8 k9 k10 k11
  have hsz : (rowsB T).size ≤ 310000 := by
    have h1 := HP.out.2.1 4 (by omega)
    rw [List.take_of_length_le (Nat.le_of_eq (mpsT_len T))] at h1
    have h2 := encLi_size T.exc
    have h3 := HO.out.exc.1
    rw [rowsB, ByteArray.size_append]; omega
  obtain ⟨S2, hR⟩ : ∃ S, rowsB T = S := ⟨_, rfl⟩
  obtain ⟨Y, hY⟩ : ∃ Y, sumS S2 = Y := ⟨_, rfl⟩
  have hYb := sumS_bd S2
  obtain ⟨S3, hS3⟩ : ∃ S3, putB Y = S3 := ⟨_, rfl⟩
  obtain ⟨S4, hS4⟩ : ∃ S4, S2 ++ S3 = S4 := ⟨_, rfl⟩
  have HF : Hid (S4 = rowsB T ++ putB (sumS (rowsB T))) := by unfold Hid; rw [hR, hY, hS3, hS4]
  have hsz3 := put_size S2 Y
  have hs3 := (putB_size Y).2
  rw [hS3] at hs3
  rw [hS3, hS4] at hsz3
  rw [hY] at hYb
  rw [hR] at hsz ⊢
  have HS3 : Hid ((⟨#[]⟩ : ByteArray) ++ putB Y = S3) := by unfold Hid; rw [hS3]; apply ByteArray.ext; simp
  have HY := Lib.hid hY
  clear hY hS3 hR
  go_wp2_with fail
  refine (sum_any S2 Y _ (by unfold maxLen; omega) HY).mono ?_
  rintro e w5 ⟨rfl, rfl⟩
  go_wp2_with fail
  refine (putInt_any ⟨#[]⟩ S3 Y _ (by decide) (isI_small (by omega) (by omega)) HS3).mono ?_
  rintro e w6 ⟨rfl, hb6⟩
  have HE6 := Lib.hid (HE2.out.step hb6)
  clear hb6
  have hE := hX.out
  by_cases hbig : 32768 < S4.size
  · rw [encT_full hV.out HF.out hbig] at hE
    injection hE with e1 e2
    subst e1; subst e2
    go_wp2
    go_ret2
    exact ⟨rfl, HE6.out.bel⟩
  · rw [encT_ok hV.out HF.out hbig] at hE
    injection hE with e1 e2
    subst e1; subst e2
    go_wp2
    go_ret2
    exact ⟨rfl, HE6.out.bel⟩

end Go.Proofs.YtmkaclfjekjabaaGreatDoor
