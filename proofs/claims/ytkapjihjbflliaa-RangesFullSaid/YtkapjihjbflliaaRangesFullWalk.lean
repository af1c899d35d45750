/-
  The walk of RangesFull.
-/
import Derived.Test.YtkapjihjbflliaaRanLaw
import Derived.Test.YtkapjihjbflliaaRanFull
namespace Go.Proofs.Ytkapjihjbflliaa.rangesFullW
open Go.RowKit

/-- Set, the length of its list named. -/
theorem setLen_at (p : Option Addr) (n cp k : Nat) (l L : List Sp) (f t v er : Int) (w : World) (hl : Hid (l.length = n)) (hn : n ≤ maxLen) (hin : SpIn w p l) (hE : Hid (setS l f t v = (L, er))) (hk : Hid (L.length = k)) :
    Calls Try.prog 15 #[.slice p n cp, .int .i64 f, .int .i64 t, .int .i64 v] w fun e w' => (∃ p' c', e = .returned (.tuple #[.slice p' k c', .int .i64 er])) ∧ Below w.heap.size w w' :=
  (set_at p n cp l L f t v er w hl hn hin hE).mono fun _ _ ⟨p', c', h1, _, _, h2⟩ => ⟨⟨p', c', by rw [h1, hk.out]⟩, h2⟩

set_option maxRecDepth 100000 in
set_option maxHeartbeats 4000000 in
theorem walk_k (a0 a1 a2 q z : Int) (k : Nat) (w : World) (hq : Hid (pickS a0 4 = q)) (hq0 : 0 ≤ q) (hq1 : q ≤ 3) (hkq : 256 - q = (k : Int)) (hk : k ≤ 256) (hk1 : 1 ≤ k) (hz : Hid (pickS a1 k = z)) (z0 : 0 ≤ z) (z1 : z < k)
    (hcase : (Hid (pickS a2 2 = 0) ∧ Hid (∃ L, setS (rowsF 0 k) (10 * z + 2) (10 * z + 2) 1 = (L, 0) ∧ L.length = k)) ∨
      (Hid (pickS a2 2 = 1) ∧ k + 2 ≤ 256 ∧ Hid (∃ L, setS (rowsF 0 k) (10 * z + 2) (10 * z + 2) 2 = (L, 0) ∧ L.length = k + 2)) ∨
      (Hid (pickS a2 2 = 1) ∧ 256 < k + 2 ∧ Hid (setS (rowsF 0 k) (10 * z + 2) (10 * z + 2) 2 = ([], 7)))) :
    Calls Try.prog 9 #[.int .i64 a0, .int .i64 a1, .int .i64 a2] w fun e w' => e = .returned (.bool true) ∧ Below w.heap.size w w' := by
  have HKQ := Lib.hid hkq
  clear hkq
  go_enter Try.func9, Try.ntmps9
  have hkq := HKQ.out
  go_wp2_with fail
  refine (pick_at a0 4 q _ (by omega) (by omega) hq).mono ?_
  rintro e w1 ⟨rfl, rfl⟩
  go_wp2
  clear hkq
  go_loopw [8, 9] (fun v iv wr => ∃ j : Nat, j ≤ k ∧ iv = .int .i64 j ∧ Hid (Spans wr w.heap.size v (rowsF 0 j)) ∧ Hid (Below w.heap.size w wr)) (fun _ iv _ => k - (intOf iv).toNat)
  case atStart => exact ⟨0, Nat.zero_le _, rfl, Spans.nil _ _, Below.refl _ _⟩
  case round =>
    obtain ⟨j, hj, rfl, ho, hbel⟩ := hrel
    by_cases hlt : j < k
    · have HR : Hid (rowsF 0 (j + 1) = rowsF 0 j ++ [(10 * (j : Int), 10 * (j : Int) + 5, 1)]) := by
        unfold Hid; rw [rowsF_snoc]; simp
      have HLn := Lib.hid (rowsF_length 0 j)
      go_wp2_with (at_builtin; refine wpList_append_span (.tmp 22) (.tmp 29) rfl rfl w.heap.size u8 (rowsF 0 j) rfl ho.out (10 * (j : Int), 10 * (j : Int) + 5, 1) 1 _ rfl (by simp) (by rw [HLn.out]; omega) hbel.out.size ?_; intro v1 w1 ho1 hg1)
      have HO := Lib.hid ho1
      have HB := Lib.hid (hbel.out.grown hg1 hbel.out.size ho.out.base)
      clear ho1 hg1
      go_wp2
      go_roundw
      case rel => exact ⟨j + 1, by omega, by go_num, by rw [HR.out]; exact HO, HB⟩
      case measure => simp [intOf]; omega
    · obtain rfl : j = k := by omega
      obtain ⟨p, cp, rfl, hi⟩ := ho.out.inn
      rw [rowsF_length]
      have HI := Lib.hid hi
      have HLn := Lib.hid (rowsF_length 0 j)
      have hjm : j ≤ maxLen := by unfold maxLen; omega
      have HJM := Lib.hid hjm
      clear hi hjm ho hlt
      go_wp2_with fail
      refine (pick_at a1 j z _ (by omega) (by omega) hz).mono ?_
      rintro e w2 ⟨rfl, rfl⟩
      rcases hcase with ⟨hb, hS⟩ | ⟨hb, hk2, hS⟩ | ⟨hb, hk2, hS⟩
      · obtain ⟨L, h1, h2⟩ := hS.out
        have H1 := Lib.hid h1
        have H2 := Lib.hid h2
        clear h1 h2 hS
        have hd1 : decide ((256 : Int) < (j : Int)) = false := by simp; omega
        have hd2 : decide ((j : Int) ≤ 256) = true := by simp; omega
        go_wp2_with fail
        refine (pick_at a2 2 0 _ (by omega) (by omega) hb).mono ?_
        rintro e w2 ⟨rfl, rfl⟩
        go_wp2_with fail
        refine (setLen_at p j cp _ (rowsF 0 j) L _ _ 1 0 _ HLn HJM.out HI.out H1 H2).mono ?_
        rintro e w3 ⟨⟨p3, c3, rfl⟩, hb3⟩
        have HB3 := Lib.hid (hbel.out.trans (hb3.mono hbel.out.size))
        clear hb3
        go_wp2_with fail
        refine (pick_at a2 2 0 _ (by omega) (by omega) hb).mono ?_
        rintro e w4 ⟨rfl, rfl⟩
        go_wp2_with fail
        refine (awake_any _).mono ?_
        rintro e w4 ⟨rfl, hb4⟩
        have HB4 := Lib.hid (HB3.out.trans (hb4.mono HB3.out.size))
        clear hb4
        go_wp2
        go_ret
        exact ⟨rfl, HB4.out⟩
      · obtain ⟨L, h1, h2⟩ := hS.out
        have H1 := Lib.hid h1
        have H2 := Lib.hid h2
        clear h1 h2 hS
        have hd1 : decide ((256 : Int) < (j : Int) + 2) = false := by simp; omega
        have hd2 : decide ((j : Int) + 2 ≤ 256) = true := by simp; omega
        go_wp2_with fail
        refine (pick_at a2 2 1 _ (by omega) (by omega) hb).mono ?_
        rintro e w2 ⟨rfl, rfl⟩
        go_wp2_with fail
        refine (setLen_at p j cp _ (rowsF 0 j) _ _ _ 2 0 _ HLn HJM.out HI.out H1 H2).mono ?_
        rintro e w3 ⟨⟨p3, c3, rfl⟩, hb3⟩
        have HB3 := Lib.hid (hbel.out.trans (hb3.mono hbel.out.size))
        clear hb3
        go_wp2_with fail
        refine (pick_at a2 2 1 _ (by omega) (by omega) hb).mono ?_
        rintro e w4 ⟨rfl, rfl⟩
        go_wp2_with fail
        refine (awake_any _).mono ?_
        rintro e w4 ⟨rfl, hb4⟩
        have HB4 := Lib.hid (HB3.out.trans (hb4.mono HB3.out.size))
        clear hb4
        go_wp2
        go_ret
        exact ⟨rfl, HB4.out⟩
      · have H1 := Lib.hid hS.out
        have H2 : Hid (([] : List Sp).length = 0) := rfl
        clear hS
        have hd1 : decide ((256 : Int) < (j : Int) + 2) = true := by simp; omega
        have hd2 : decide ((j : Int) + 2 ≤ 256) = false := by simp; omega
        go_wp2_with fail
        refine (pick_at a2 2 1 _ (by omega) (by omega) hb).mono ?_
        rintro e w2 ⟨rfl, rfl⟩
        go_wp2_with fail
        refine (setLen_at p j cp _ (rowsF 0 j) _ _ _ 2 7 _ HLn HJM.out HI.out H1 H2).mono ?_
        rintro e w3 ⟨⟨p3, c3, rfl⟩, hb3⟩
        have HB3 := Lib.hid (hbel.out.trans (hb3.mono hbel.out.size))
        clear hb3
        go_wp2_with fail
        refine (pick_at a2 2 1 _ (by omega) (by omega) hb).mono ?_
        rintro e w4 ⟨rfl, rfl⟩
        go_wp2_with fail
        refine (awake_any _).mono ?_
        rintro e w4 ⟨rfl, hb4⟩
        have HB4 := Lib.hid (HB3.out.trans (hb4.mono HB3.out.size))
        clear hb4
        go_wp2
        go_ret
        exact ⟨rfl, HB4.out⟩

theorem walk (a0 a1 a2 : Int) (_ : (Lit.int .i64 a0).wf = true) (_ : (Lit.int .i64 a1).wf = true) (_ : (Lit.int .i64 a2).wf = true) (w : World) :
    Calls Try.prog 9 #[.int .i64 a0, .int .i64 a1, .int .i64 a2] w fun e w' => e = .returned (.bool true) ∧ Below w.heap.size w w' := by
  obtain ⟨q, hq, q0, q1⟩ := pick_named a0 4 (by omega)
  obtain ⟨k, hk⟩ : ∃ k : Nat, 256 - q = k := ⟨(256 - q).toNat, by omega⟩
  obtain ⟨z, hz, z0, z1⟩ := pick_named a1 k (by omega)
  obtain ⟨b, hb, b0, b1⟩ := pick_named a2 2 (by omega)
  refine walk_k a0 a1 a2 q z k w hq q0 (by omega) hk (by omega) (by omega) hz z0 z1 ?_
  have hb2 : b = 0 ∨ b = 1 := by omega
  rcases hb2 with rfl | rfl
  · exact .inl ⟨hb, _, full_same k z (by omega) z0 z1, rowsF_length 0 k⟩
  · obtain ⟨L, h1, h2⟩ := full_other k z (by omega) z0 z1
    by_cases hk2 : k + 2 ≤ 256
    · exact .inr (.inl ⟨hb, hk2, L, by rw [h2, limS_ok (by omega)], h1⟩)
    · exact .inr (.inr ⟨hb, by omega, by unfold Hid; rw [h2, limS_big (by omega)]⟩)

end Go.Proofs.Ytkapjihjbflliaa.rangesFullW
