/-
  The walk of UtfBack.
-/
import Derived.Test.YtcpldaanffjbjaaRefA
import Derived.Test.YtcpldaanffjbjaaUtfE
import Derived.Test.YtcpldaanffjbjaaPick
import Derived.Deep.QuietTactic
import Derived.BigQuiet
import Derived.Deep.DeepCutAuto
import Derived.OpenShut
namespace Go.Proofs.Ytcpldaanffjbjaa.utfBackW
open Go.RowKit

theorem pick_quiet (v n : Int) (w : World) (h0 : 1 ≤ n) (h1 : n ≤ 1073741824) :
    Calls Try.prog 11 #[.int .i64 v, .int .i64 n] w fun e w' => e = .returned (.int .i64 (pickS v n)) ∧ w' = w :=
  (pick_any v n w h0 h1).mono fun _ _ ⟨a, b⟩ => ⟨a, b.symm⟩

theorem pick_named (v n q : Int) (w : World) (h0 : 1 ≤ n) (h1 : n ≤ 1073741824) (hq : Hid (pickS v n = q)) :
    Calls Try.prog 11 #[.int .i64 v, .int .i64 n] w fun e w' => e = .returned (.int .i64 q) ∧ w' = w := hq.out ▸ pick_quiet v n w h0 h1

theorem same_at (p q : Option Addr) (c d n m : Nat) (xs : List Int) (w : World) (hx : IntsIn w p xs) (hy : IntsIn w q xs) (hl : xs.length ≤ maxLen) (hn : xs.length = n) (hm : xs.length = m) :
    Calls Try.prog 18 #[.slice p n c, .slice q m d] w fun e w' => e = .returned (.bool true) ∧ Below w.heap.size w w' := by
  subst hn; subst hm
  have := same_any p q c d xs xs w hx hy hl hl
  rwa [show (xs == xs) = true by simp] at this

theorem length_at' (c z : Int) (w : World) (h : Hid (lenS c = z)) :
    Calls Try.prog 14 #[.int .i64 c] w fun e w' => e = .returned (.int .i64 z) ∧ w = w' := h.out ▸ length_any c w

theorem back_facts (xs : List Int) (ha : allS xs = true) (hn : xs.length ≤ 200) :
    encodeS xs = (strOfNums (flat xs), 0) ∧ decodeS (strOfNums (flat xs)).data.toList = (xs, 0, 0) ∧ (strOfNums (flat xs)).size ≤ 800 := by
  have hf := flat_bd xs
  have hd := dec_flatU [] xs ha
  rw [List.append_nil, dec_zero [] rfl, List.append_nil] at hd
  refine ⟨by rw [encodeS, if_neg (by omega), if_pos ha], ?_, by rw [strOfNums_size]; omega⟩
  have hl : (flatU xs).length ≤ 800 := by
    rw [← strOfNums_flat]
    show (strOfNums (flat xs)).size ≤ 800
    rw [strOfNums_size]; omega
  rw [strOfNums_flat, decodeS, hd, if_neg (by omega), if_neg (by simp)]

set_option maxRecDepth 100000 in
set_option maxHeartbeats 4000000 in
theorem walk (a0 : Option Addr) (len0 cap0 : Nat) (z0 : List Int) (shift : Int) (w : World) (w0 : IsRow .i64 w a0 len0 cap0 z0) (_ : (Lit.int .i64 shift).wf = true) :
    Calls Try.prog 5 #[.slice a0 len0 cap0, .int .i64 shift] w fun e w' => e = .returned (.bool true) ∧ Below w.heap.size w w' := by
  obtain ⟨zs, rfl, hzl, hzs, _⟩ := w0.inn
  simp only [IntKind.bits] at hzl
  have HZ := Lib.hid hzs
  clear hzs w0
  obtain ⟨i0, hi, hz0, hz1, hz2⟩ := info_parts Try.info3
  go_enter Try.func5, Try.ntmps5
  go_wp2
  go_loopw [5, 6, 7] (fun v n i wr => ∃ k : Nat, ∃ xs : List Int, k ≤ 200 ∧ i = .int .i64 k ∧ xs.length ≤ k ∧ n = .int .i64 (flat xs).length ∧ Hid (allS xs = true) ∧ Ints wr w.heap.size v xs ∧ Below w.heap.size w wr) (fun _ _ i _ => 200 - (intOf i).toNat)
  case atStart => exact ⟨0, [], by omega, rfl, Nat.zero_le _, rfl, rfl, Ints.nil _ _, Below.refl _ _⟩
  case round =>
    obtain ⟨k, xs, hk, rfl, hxk, rfl, ha, hown, hbel⟩ := hrel
    by_cases hlt : k < zs.length ∧ k < 200
    · obtain ⟨hlt1, hlt2⟩ := hlt
      obtain ⟨b, off, rfl, hck⟩ := (HZ.out.below hbel) k hlt1
      obtain ⟨x, hx⟩ : ∃ x, zs.getD k 0 = x := ⟨_, rfl⟩
      rw [hx] at hck
      have hfb := flat_bd xs
      obtain ⟨hr0, hr1⟩ := pickS_bd (wrap64 (shift + k)) 48 (by omega)
      have HO := Lib.hid hown
      have HB := Lib.hid hbel
      have hB := hbel.size
      clear hx hown hbel
      go_upto_region 6 with (fail)
      go_cut [8] (fun c wx => ∃ y : Int, c = .int .i64 y ∧ 0 ≤ y ∧ y ≤ 1114111 ∧ Ints wx w.heap.size u5 xs ∧ Below w.heap.size w wx)
      case first =>
        go_quiet ((go_at_call 11; exact Calls.quiet_of_same (pick_quiet _ _ _ (by omega) (by omega))))
        go_wp2
        go_meet
        have hb := pickS_bd (x / 2 ^ (pickS (wrap64 (shift + k)) 48).toNat) 1114112 (by omega)
        exact ⟨_, rfl, hb.1, by omega, HO.out.below (below_drewN (Below.refl _ _) _), below_drewN HB.out _⟩
      case rest =>
        obtain ⟨y, rfl, hy0, hy1, hown, hbel⟩ := hcut
        by_cases h0 : lenS y = 0
        · have HS : Hid ((!(lenS y == 0)) = false) := by simp [Hid, h0]
          clear h0
          go_wp2_with (go_at_call 16; refine (scalar_at _ _ _ HS).mono ?_; rintro e w1 ⟨rfl, rfl⟩)
          go_roundw
          case rel => exact ⟨k + 1, xs, by omega, by go_num, by omega, rfl, ha, hown, hbel⟩
          case measure => simp [intOf]; omega
        · have HS : Hid ((!(lenS y == 0)) = true) := by simp [Hid, h0]
          obtain ⟨z, hz⟩ : ∃ z : Nat, lenS y = z := ⟨(lenS y).toNat, by have := lenS_bd y; omega⟩
          have hz4 : z ≤ 4 := by have := lenS_bd y; omega
          have HN := Lib.hid hz
          have HF : Hid ((flat (xs ++ [y])).length = (flat xs).length + z) := by
            have := encB_len y h0
            rw [flat_snoc, List.length_append]
            unfold Hid; omega
          have HA : Hid (allS (xs ++ [y]) = true) := by rw [allS_snoc, ha.out]; simp [Hid, h0]
          clear h0 hz
          go_wp2_with (first
            | (go_at_call 16; refine (scalar_at _ _ _ HS).mono ?_; rintro e w1 ⟨rfl, rfl⟩)
            | (go_at_call 14; refine (length_at' _ _ _ HN).mono ?_; rintro e w1 ⟨rfl, rfl⟩)
            | (at_builtin; refine wpList_append_own _ rfl _ _ 26 rfl w.heap.size 3 i0 (.int .i64 0) 1 8 Try.underlying26 hi hz0 hz1 hz2 rfl (by decide) _ _ _ rfl (hown.alloc _) ⟨_, 0, none⟩ 1 1 [.int .i64 y] rfl rfl (cell_one_new _ _ _) ?c2 ?c3 ?c4 ?c5 ?_))
          case c2 => intro u hu; simp at hu; subst hu; rfl
          case c3 => unfold maxLen; omega
          case c4 => omega
          case c5 => have := hbel.size; simp; omega
          intro v' w2 hown2 hg2 _
          have hB2 : Below w.heap.size w w2 := (hbel.alloc hbel.size _).grown hg2 (by have := hbel.size; simp; omega) (fun k hk => (hown.lt k hk).1)
          have hI : Ints w2 w.heap.size v' (xs ++ [y]) := by unfold Ints; simpa using hown2
          have HB2 := Lib.hid hB2
          have HI := Lib.hid hI
          clear hown2 hg2 hB2 hI
          go_wp2_with (go_at_call 14; refine (length_at' _ _ _ HN).mono ?_; rintro e w1 ⟨rfl, rfl⟩)
          go_roundw
          case rel => exact ⟨k + 1, xs ++ [y], by omega, by go_num, by simp; omega, by rw [HF.out]; go_num, HA, HI.out, HB2.out⟩
          case measure => simp [intOf]; omega
    · have hout : zs.length ≤ k ∨ (k < zs.length ∧ 200 ≤ k) := by omega
      clear hlt
      obtain ⟨p, cp, rfl, hin⟩ := hown.inn
      obtain ⟨f1, f2, f3⟩ := back_facts xs ha.out (by omega)
      have hsz : ((strOfNums (flat xs)).size : Int) = ((flat xs).length : Int) := by rw [strOfNums_size]
      obtain ⟨S, hS⟩ : ∃ S, strOfNums (flat xs) = S := ⟨_, rfl⟩
      obtain ⟨N, hN⟩ : ∃ N, (flat xs).length = N := ⟨_, rfl⟩
      rw [hS, hN] at hsz
      rw [hS] at f1 f2 f3
      rw [hN]
      have heq : ((S.size : Int) == (N : Int)) = true := by rw [hsz]; simp
      have HE := Lib.hid f1
      have HD := Lib.hid f2
      have HI := Lib.hid hin
      have HB := Lib.hid hbel
      have hSm : S.size ≤ maxLen := by unfold maxLen; omega
      have hxm : xs.length ≤ maxLen := by unfold maxLen; omega
      clear f1 f2 hin hbel hS hN hsz hown
      rcases hout with ho | ⟨ho, ho2⟩
      all_goals
        go_wp2_with fail
        refine (encode_at _ _ _ xs S 0 _ HI.out hxm rfl HE).mono ?_
        rintro e w1 ⟨rfl, hb1⟩
        have HI1 := Lib.hid (HI.out.below hb1)
        have HB1 := Lib.hid (HB.out.trans (hb1.mono HB.out.size))
        clear hb1
        go_wp2_with fail
        refine (decode_at S xs 0 0 _ hSm HD).mono ?_
        rintro e w2 ⟨p2, cp2, rfl, hi2, hb2⟩
        have HJ2 := Lib.hid hi2
        have HI2 := Lib.hid (HI1.out.below hb2)
        have HB2 := Lib.hid (HB1.out.trans (hb2.mono HB1.out.size))
        clear hb2 hi2 HI1 HB1
        go_wp2_with fail
        refine (awake_any _).mono ?_
        rintro e w3 ⟨rfl, hb3⟩
        have HJ3 := Lib.hid (HJ2.out.below hb3)
        have HI3 := Lib.hid (HI2.out.below hb3)
        have HB3 := Lib.hid (HB2.out.trans (hb3.mono HB2.out.size))
        clear hb3 HJ2 HI2 HB2
        go_wp2_with fail
        refine (same_at _ _ _ _ _ _ xs _ HJ3.out HI3.out hxm rfl rfl).mono ?_
        rintro e w4 ⟨rfl, hb4⟩
        have HB4 := Lib.hid (HB3.out.trans (hb4.mono HB3.out.size))
        clear hb4 HB3
        go_wp2
        go_ret
        exact ⟨rfl, HB4.out⟩

end Go.Proofs.Ytcpldaanffjbjaa.utfBackW
