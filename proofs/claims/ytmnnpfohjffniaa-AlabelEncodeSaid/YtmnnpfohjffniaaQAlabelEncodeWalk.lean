/-
  The walk of AlabelEncode.
-/
import Derived.Test.YtmnnpfohjffniaaPkZZF
import Derived.Test.YtmnnpfohjffniaaQAppend
set_option linter.unusedSimpArgs false
set_option linter.unusedVariables false
namespace Go.Proofs.Ytmnnpfohjffniaa.alabelEncodeW
open Go.RowKit

theorem epick_at (v n q : Int) (w : World) (h0 : 1 ≤ n) (h1 : n ≤ 1073741824) (hq : Hid (pickS v n = q)) :
    Calls Try.prog 9 #[.int .i64 v, .int .i64 n] w fun e w' => e = .returned (.int .i64 q) ∧ w = w' := hq.out ▸ pick_any v n w h0 h1

theorem isRow_cap {t : IntKind} {w : World} {a : Option Addr} {len cap : Nat} {zs : List Int} (h : IsRow t w a len cap zs) : len ≤ cap := by
  rcases h with ⟨rfl, rfl, rfl, rfl⟩ | ⟨x, rfl, h1, h2, h3, h4, h5⟩
  · exact Nat.le_refl _
  · exact h1

def Bd (k n : Nat) : Prop := n ≤ 48 ∧ (k = 1 → n ≤ 24) ∧ (k = 2 → n ≤ 12) ∧ (k = 3 → n ≤ 6)
theorem Bd.start {k n : Nat} (h : n ≤ 6) : Bd k n := ⟨by omega, fun _ => by omega, fun _ => by omega, fun _ => h⟩
theorem Bd.twice {k n m : Nat} (h : Bd (k + 1) n) (hk : k + 1 ≤ 3) (hm : m = n + n) : Bd k m := by
  obtain ⟨h0, h1, h2, h3⟩ := h
  rcases (show k = 0 ∨ k = 1 ∨ k = 2 by omega) with rfl | rfl | rfl
  · have := h1 rfl; exact ⟨by omega, fun e => by omega, fun e => by omega, fun e => by omega⟩
  · have := h2 rfl; exact ⟨by omega, fun e => by omega, fun e => by omega, fun e => by omega⟩
  · have := h3 rfl; exact ⟨by omega, fun e => by omega, fun e => by omega, fun e => by omega⟩

set_option maxRecDepth 100000 in
set_option maxHeartbeats 4000000 in
theorem walk (a0 : Option Addr) (len0 cap0 : Nat) (z0 : List Int) (a1 : Option Addr) (len1 cap1 : Nat) (z1 : List Int) (a2 : Int) (w : World) (w0 : IsRow .i64 w a0 len0 cap0 z0) (w1 : IsRow .i64 w a1 len1 cap1 z1) (w2 : (Lit.int .i64 a2).wf = true) :
    Calls Try.prog 3 #[.slice a0 len0 cap0, .slice a1 len1 cap1, .int .i64 a2] w fun e w' => e = .returned (.bool true) ∧ Below w.heap.size w w' := by
  have hcap0 := isRow_cap w0
  obtain ⟨ls, hln, hll, hls, _⟩ := w0.inn
  obtain ⟨zs, hzn, hzl, hzs, _⟩ := w1.inn
  simp only [IntKind.bits] at hzl hll
  have HL0 := Lib.hid hls
  have HZ := Lib.hid hzs
  have HLN : Hid (ls.length = len0) := hln.symm
  have HZN : Hid (zs.length = len1) := hzn.symm
  have hlb : len0 ≤ 17592186043904 := by omega
  have hzb : len1 ≤ 17592186043904 := by omega
  obtain ⟨q, HQ, hq3⟩ : ∃ q : Nat, Hid (pickS a2 4 = (q : Int)) ∧ q < 4 := by
    obtain ⟨h0, h1⟩ := pickS_bd a2 4 (by omega)
    exact ⟨(pickS a2 4).toNat, by unfold Hid; omega, by omega⟩
  obtain ⟨xs, hX⟩ : ∃ xs, wordF zs = xs := ⟨_, rfl⟩
  have hx6 := (wordF_len zs).2
  rw [hX] at hx6
  obtain ⟨X, er, hL⟩ : ∃ X er, labS ls = (X, er) := ⟨_, _, rfl⟩
  obtain ⟨S, hS⟩ : ∃ S, strOfNums X = S := ⟨_, rfl⟩
  obtain ⟨B, hB⟩ : ∃ B, ascQ ls = B := ⟨_, rfl⟩
  have HX := Lib.hid hX
  have HX6 := Lib.hid hx6
  have HL := Lib.hid hL
  have HS := Lib.hid hS
  have HAB := Lib.hid hB
  have hqS : (S.toList == S.toList) = true := by simp
  have hqB : (B == B) = true := by simp
  have hqe : (er == er) = true := by simp
  clear hX hx6 hL hS hB hln hll hls hzn hzl hzs w0 w1 w2
  go_enter Try.func3, Try.ntmps3
  go_wp2_with fail
  refine (kwordsN_at a1 len1 cap1 zs xs _ HZ.out HZN hzb HX).mono ?_
  rintro e w3 ⟨v1, rfl, hi1, hb1⟩
  have HI := Lib.hid hi1
  have HB := Lib.hid hb1
  clear hi1 hb1
  go_wp2_with (go_at_call 9; refine (epick_at a2 4 q _ (by omega) (by omega) HQ).mono ?_; rintro e w4 ⟨rfl, rfl⟩)
  go_loopw [7, 8] (fun v i wr => ∃ (k : Nat) (ys : List Int), k ≤ 3 ∧ i = .int .i64 k ∧ Hid (Bd k ys.length) ∧ Hid (Ints wr w.heap.size v ys) ∧ Hid (Below w.heap.size w wr)) (fun _ i _ => (intOf i).toNat)
  case atStart => exact ⟨q, xs, by omega, rfl, Bd.start HX6.out, HI, HB⟩
  case round =>
    obtain ⟨k, ys, hk, rfl, hbd, ho, hbel⟩ := hrel
    obtain ⟨p, c, rfl, hin, hcc⟩ := ints_capA ho.out
    have HIN := Lib.hid hin
    obtain ⟨n, hn⟩ : ∃ n, ys.length = n := ⟨_, rfl⟩
    rw [hn] at hbd hcc
    rw [hn]
    have hn48 : n ≤ 48 := hbd.out.1
    have HN := Lib.hid hn
    have HO := Lib.hid ho.out
    have HSZ := Lib.hid hbel.out.size
    clear hn hin ho HI HB
    by_cases h0 : 0 < k
    · obtain ⟨j, rfl⟩ : ∃ j, k = j + 1 := ⟨k - 1, by omega⟩
      go_wp2_with (at_builtin; first
        | (refine wpList_append_ints (.const (.slice none 0 0)) (.tmp 25) rfl rfl w.heap.size (.slice none 0 0) [] (by rfl) (Ints.nil _ _) p n c ys HN.out (by rfl) HIN.out (by rw [HN.out]; simp; omega) HSZ.out ?_
           intro v5 w5 ho5 hg5
           have HO5 := Lib.hid ho5
           have HIN5 := Lib.hid (RowIn.grownNone HIN.out hg5)
           have HSZ5 := Lib.hid (Nat.le_trans HSZ.out hg5.size)
           have HB5 := Lib.hid (hbel.out.grown hg5 HSZ.out (by intro k e; cases e)))
        | (refine wpList_append_ints (.tmp 26) (.tmp 27) rfl rfl w.heap.size v5 ([] ++ ys) (by rfl) HO5.out p n c ys HN.out (by rfl) HIN5.out (by simp only [List.nil_append]; rw [HN.out]; omega) HSZ5.out ?_
           intro v6 w6 ho6 hg6
           have HO6 := Lib.hid ho6
           have HB6 := Lib.hid (HB5.out.grown hg6 HSZ5.out (fun j hj => (World.ownsRow.lt HO5.out j hj).1))
           clear ho6 hg6 ho5 hg5))
      have HBD : Hid (Bd j (([] ++ ys) ++ ys).length) := hbd.out.twice hk (by simp [HN.out])
      go_roundw
      case rel => exact ⟨j, _, by omega, by go_num, HBD, HO6, HB6⟩
      case measure => simp [intOf]
    · obtain rfl : k = 0 := by omega
      obtain ⟨Y, er2, hL2⟩ : ∃ X er, labS ys = (X, er) := ⟨_, _, rfl⟩
      obtain ⟨T, hT⟩ : ∃ S, strOfNums Y = S := ⟨_, rfl⟩
      obtain ⟨C, hC⟩ : ∃ B, ascQ ys = B := ⟨_, rfl⟩
      have HL2 := Lib.hid hL2
      have HT := Lib.hid hT
      have HAC := Lib.hid hC
      have hqT : (T.toList == T.toList) = true := by simp
      have hqC : (C == C) = true := by simp
      have hqe2 : (er2 == er2) = true := by simp
      replace HL0 := Lib.hid (HL0.out.below hbel.out)
      clear hL2 hT hC
      go_wp2_with fail
      refine (alab_at a0 len0 cap0 ls X er S _ HL0.out HLN hcap0 hlb HL HS).mono ?_
      rintro e w5 ⟨rfl, hb5⟩
      have HB5 := Lib.hid (hbel.out.trans (hb5.mono hbel.out.size))
      replace HL0 := Lib.hid (HL0.out.below hb5)
      replace HIN := Lib.hid (HIN.out.below hb5)
      clear hb5
      go_wp2_with fail
      refine (rlab_at a0 len0 cap0 ls X er S _ HL0.out HLN hlb HL HS).mono ?_
      rintro e w6 ⟨rfl, hb5⟩
      replace HB5 := Lib.hid (HB5.out.trans (hb5.mono HB5.out.size))
      replace HL0 := Lib.hid (HL0.out.below hb5)
      replace HIN := Lib.hid (HIN.out.below hb5)
      clear hb5
      go_wp2_with fail
      refine (alab_at p n c ys Y er2 T _ HIN.out HN hcc (by omega) HL2 HT).mono ?_
      rintro e w7 ⟨rfl, hb5⟩
      replace HB5 := Lib.hid (HB5.out.trans (hb5.mono HB5.out.size))
      replace HL0 := Lib.hid (HL0.out.below hb5)
      replace HIN := Lib.hid (HIN.out.below hb5)
      clear hb5
      go_wp2_with fail
      refine (rlab_at p n c ys Y er2 T _ HIN.out HN (by omega) HL2 HT).mono ?_
      rintro e w8 ⟨rfl, hb5⟩
      replace HB5 := Lib.hid (HB5.out.trans (hb5.mono HB5.out.size))
      replace HL0 := Lib.hid (HL0.out.below hb5)
      replace HIN := Lib.hid (HIN.out.below hb5)
      clear hb5
      go_wp2_with fail
      refine (awake11_any _).mono ?_
      rintro e w9 ⟨rfl, hb5⟩
      replace HB5 := Lib.hid (HB5.out.trans (hb5.mono HB5.out.size))
      replace HL0 := Lib.hid (HL0.out.below hb5)
      replace HIN := Lib.hid (HIN.out.below hb5)
      clear hb5
      go_wp2_with fail
      refine (ascii_at a0 len0 cap0 ls B _ HL0.out HLN hlb HAB).mono ?_
      rintro e wa ⟨rfl, rfl⟩
      go_wp2_with fail
      refine (rascii_at a0 len0 cap0 ls B _ HL0.out HLN hlb HAB).mono ?_
      rintro e wb ⟨rfl, rfl⟩
      go_wp2_with fail
      refine (ascii_at p n c ys C _ HIN.out HN (by omega) HAC).mono ?_
      rintro e wc ⟨rfl, rfl⟩
      go_wp2_with fail
      refine (rascii_at p n c ys C _ HIN.out HN (by omega) HAC).mono ?_
      rintro e wd ⟨rfl, rfl⟩
      go_wp2
      go_ret
      exact ⟨rfl, HB5.out⟩

end Go.Proofs.Ytmnnpfohjffniaa.alabelEncodeW
