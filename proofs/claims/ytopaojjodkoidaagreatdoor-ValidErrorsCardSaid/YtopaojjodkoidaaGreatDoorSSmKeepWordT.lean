/-
  keep.word, keep.Word: the code points of a word, as a function of the argument.
-/
import Derived.Test.YtopaojjodkoidaaGreatDoorSSmTblQ
import Derived.Test.YtopaojjodkoidaaGreatDoorSSmTabRC
set_option linter.unusedSimpArgs false
set_option linter.unusedVariables false
namespace Go.Proofs.YtopaojjodkoidaaGreatDoor
open Go.RowKit
def wdP : List Int := [97, 98, 109, 110, 111, 114, 48, 120, 121]
def wdQ : List Int := [769, 803, 945, 946, 1072, 1488, 1576, 1632, 7680, 7681, 7682, 19968, 44032, 8204, 2381]
def wdA (r : List Int) : Int × List Int :=
 if nextV r 2 = 0 then (wdP.getD (nextV r.tail 9).toNat 0, r.tail.tail) else (wdQ.getD (nextV r.tail 15).toNat 0, r.tail.tail)
def wdL : Nat → List Int → List Int
 | 0, _ => []
 | k + 1, r => (wdA r).1 :: wdL k (wdA r).2
def wordF (zs : List Int) : List Int := wdL (1 + (nextV zs 6).toNat) zs.tail
theorem wdL_len : ∀ (k : Nat) (r : List Int), (wdL k r).length = k
 | 0, _ => rfl
 | k + 1, r => by simp [wdL, wdL_len k]
theorem wordF_len (zs : List Int) : 1 ≤ (wordF zs).length ∧ (wordF zs).length ≤ 6 := by
 have := nextV_bd zs 6 (by omega)
 unfold wordF
 rw [wdL_len]; omega
theorem kw_next (g : Nat) (r : List Int) (n v : Int) (w : World) (hs : Src w g r) (h0 : 1 ≤ n) (h1 : n ≤ 1073741824) (hv : Hid (nextV r n = v)) :
 Calls Tryz.prog 24 #[.pointer (some ⟨g, 0, none⟩), .int .i64 n] w (NextPost g v r.tail w) := hv.out ▸ next_any g r n w hs h0 h1
def WordOne (g : Nat) (c : Int) (r : List Int) (w : World) (e : Ending) (w' : World) : Prop :=
 e = .returned (.int .i64 c) ∧ Src w' g r ∧ w.grownBy w' (some g)
theorem kwlit : ∀ q (h : q < 9), (((ByteArray.mk #[97, 98, 109, 110, 111, 114, 48, 120, 121])[q]'(h)).toNat : Int) = wdP.getD q 0 ∧ 0 ≤ wdP.getD q 0 ∧ wdP.getD q 0 ≤ 127 := by decide +kernel
set_option maxHeartbeats 1000000 in
theorem kword_at (g : Nat) (r r' : List Int) (c : Int) (w : World) (hs : Src w g r) (hA : Hid (wdA r = (c, r'))) :
 Calls Tryz.prog 32 #[.pointer (some ⟨g, 0, none⟩)] w (WordOne g c r' w) := by
 have HS := Lib.hid hs
 have hg : g < w.heap.size := by obtain ⟨_, _, _, _, _, _, _, h4, _⟩ := hs; exact World.block_lt_of_cell? w _ h4
 clear hs
 obtain ⟨v0, v1⟩ := nextV_bd r 2 (by omega)
 have hv : nextV r 2 = 0 ∨ nextV r 2 = 1 := by omega
 clear v0 v1
 rcases hv with hv | hv
 ·have hA' := hA.out
  unfold wdA at hA'
  rw [if_pos hv] at hA'
  injection hA' with e1 e2
  obtain ⟨q, hq⟩ : ∃ q : Nat, nextV r.tail 9 = q := ⟨(nextV r.tail 9).toNat, by have := nextV_bd r.tail 9 (by omega); omega⟩
  have hq12 : q < 9 := by have := nextV_bd r.tail 9 (by omega); omega
  rw [hq, Int.toNat_natCast] at e1
  obtain ⟨k1, k2, k3⟩ := kwlit q hq12
  rw [e1] at k1 k2 k3
  have HV := Lib.hid hv
  have HQ := Lib.hid hq
  have HR := Lib.hid e2
  obtain ⟨y, hy⟩ : ∃ y : Int, (((ByteArray.mk #[97, 98, 109, 110, 111, 114, 48, 120, 121])[q]'(hq12)).toNat : Int) = y := ⟨_, rfl⟩
  have HY : Hid (y = c) := by unfold Hid; rw [← hy, k1]
  have hy0 : 0 ≤ y := by have := HY.out; omega
  have hy1 : y ≤ 127 := by have := HY.out; omega
  clear hA hq e1 e2 hv k1 k2 k3
  go_enter Tryz.func32, Tryz.ntmps32
  go_wp2_with fail
  refine (kw_next g r 2 _ _ HS.out (by omega) (by omega) HV).mono ?_
  rintro e w2 ⟨rfl, hs2, hg2⟩
  have HS2 := Lib.hid hs2
  have HG2 := Lib.hid hg2
  clear hs2 hg2
  go_wp2_with fail
  refine (kw_next g r.tail 9 q _ HS2.out (by omega) (by omega) HQ).mono ?_
  rintro e w3 ⟨rfl, hs3, hg3⟩
  have HS3 := Lib.hid hs3
  have HG3 := Lib.hid (grownBy_trans HG2.out hg3)
  clear hs3 hg3
  go_wp2
  go_ret
  exact ⟨by rw [HY.out]; rfl, by rw [← HR.out]; exact HS3.out, HG3.out⟩
 ·have hA' := hA.out
  unfold wdA at hA'
  rw [if_neg (by omega)] at hA'
  injection hA' with e1 e2
  obtain ⟨q, hq⟩ : ∃ q : Nat, nextV r.tail 15 = q := ⟨(nextV r.tail 15).toNat, by have := nextV_bd r.tail 15 (by omega); omega⟩
  have hq15 : q < 15 := by have := nextV_bd r.tail 15 (by omega); omega
  rw [hq, Int.toNat_natCast] at e1
  have HV := Lib.hid hv
  have HQ := Lib.hid hq
  have HR := Lib.hid e2
  have HE1 := Lib.hid e1
  clear hA hq e1 e2 hv
  go_enter Tryz.func32, Tryz.ntmps32
  go_wp2_with fail
  refine (kw_next g r 2 _ _ HS.out (by omega) (by omega) HV).mono ?_
  rintro e w2 ⟨rfl, hs2, hg2⟩
  have HS2 := Lib.hid hs2
  have HG2 := Lib.hid hg2
  clear hs2 hg2
  go_wp2_with fail
  refine (kw_next g r.tail 15 q _ (HS2.out.alloc _) (by omega) (by omega) HQ).mono ?_
  rintro e w3 ⟨rfl, hs3, hg3⟩
  obtain ⟨_, _, hbe, hck⟩ := ((lit_ints w2 #[.int .i64 769, .int .i64 803, .int .i64 945, .int .i64 946, .int .i64 1072, .int .i64 1488, .int .i64 1576, .int .i64 1632, .int .i64 7680, .int .i64 7681, .int .i64 7682, .int .i64 19968, .int .i64 44032, .int .i64 8204, .int .i64 2381] wdQ _ rfl).grown hg3 (by intro b off e; cases e; have := HG2.out.size; omega)) q hq15
  cases hbe
  rw [HE1.out, Nat.zero_add] at hck
  have HS3 := Lib.hid hs3
  have HG3 := Lib.hid (grownBy_trans (grownBy_trans HG2.out (World.grownBy_alloc _ _ _)) hg3)
  clear hs3 hg3
  go_wp2
  go_ret
  exact ⟨rfl, by rw [← HR.out]; exact HS3.out, HG3.out⟩
def WordPost (xs : List Int) (w : World) (e : Ending) (w' : World) : Prop :=
 ∃ v, e = .returned v ∧ Ints w' w.heap.size v xs ∧ Below w.heap.size w w'
set_option maxHeartbeats 1000000 in
theorem kwordsN_at (p : Option Addr) (n cap : Nat) (zs xs : List Int) (w : World) (hin : IntsIn w p zs) (hn : Hid (zs.length = n)) (hl : n ≤ 17592186043904) (hX : Hid (wordF zs = xs)) :
 Calls Tryz.prog 10 #[.slice p n cap] w (WordPost xs w) := by
 have HI := Lib.hid hin
 clear hin
 obtain rfl := hn.out
 obtain ⟨v0, v1⟩ := nextV_bd zs 6 (by omega)
 obtain ⟨m, hm⟩ : ∃ m : Nat, nextV zs 6 = m := ⟨(nextV zs 6).toNat, by omega⟩
 have hm5 : m ≤ 5 := by omega
 have HN := Lib.hid hm
 have HX : Hid (wdL (1 + m) zs.tail = xs) := by unfold Hid; rw [← hX.out, wordF, hm]; rfl
 clear v0 v1 hm hX
 obtain ⟨i0, hi, hz0, hz1, hz2⟩ := info_parts Tryz.info3
 go_enter Tryz.func10, Tryz.ntmps10
 go_wp2_with fail
 refine (from_any p cap zs _ HI.out hl).mono ?_
 rintro e w1 ⟨g, rfl, hg, hs1, hb1⟩
 have HS1 := Lib.hid hs1
 have HB1 := Lib.hid hb1
 clear hs1 hb1
 go_wp2_with fail
 refine (kw_next g zs 6 m _ HS1.out (by omega) (by omega) HN).mono ?_
 rintro e w2 ⟨rfl, hs2, hg2⟩
 have hb2 : Below w.heap.size w w2 := HB1.out.grown hg2 HB1.out.size (by intro k e; cases e; exact hg)
 have HS2 := Lib.hid hs2
 have HB2 := Lib.hid hb2
 clear hs2 hb2 hg2
 go_wp2
 go_loopw [4, 5] (fun v u wr => ∃ k : Nat, ∃ ys : List Int, ∃ r : List Int, k ≤ 6 ∧ u = .int .i64 k ∧ ys.length + k ≤ 6 ∧ Hid (ys ++ wdL k r = xs) ∧ Hid (Src wr g r) ∧ Hid (Ints wr (g + 1) v ys) ∧ Hid (g < wr.heap.size) ∧ Hid (Below w.heap.size w wr)) (fun _ u _ => (intOf u).toNat)
 case atStart => exact ⟨1 + m, [], zs.tail, by omega, by go_num, by simp; omega, HX, HS2, Ints.nil _ _, by obtain ⟨_, _, _, _, _, _, _, h4, _⟩ := HS2.out; exact World.block_lt_of_cell? w2 _ h4, HB2⟩
 case round =>
  obtain ⟨k, ys, r, hk, rfl, hxk, ha, hs, hown, hgl, hbel⟩ := hrel
  by_cases h0 : 0 < k
  ·obtain ⟨j, rfl⟩ : ∃ j, k = j + 1 := ⟨k - 1, by omega⟩
   have hgl' := hgl.out
   obtain ⟨c, r', hA⟩ : ∃ c r', wdA r = (c, r') := ⟨_, _, rfl⟩
   have HA := Lib.hid hA
   have HE : Hid ((ys ++ [c]) ++ wdL j r' = xs) := by
    have h1 := ha.out
    unfold Hid
    rw [wdL, hA] at h1
    rw [← h1]; simp
   clear hA ha
   go_wp2_with fail
   refine (kword_at g r r' c _ hs.out HA).mono ?_
   rintro e w3 ⟨rfl, hs3, hg3⟩
   have hown3 : w3.ownsRow (g + 1) 3 1 u4 ys.length (ys.map (.int .i64)) := hown.out.kept hg3 (by
    cases hv : Value.ownBlock u4 with
    | none => simp
    | some b => have := (hown.out.lt b hv).1; simp; omega)
   have hbel3 : Below w.heap.size w w3 := hbel.out.grown hg3 hbel.out.size (by intro j e; cases e; exact hg)
   have HS3 := Lib.hid hs3
   have HB3 := Lib.hid hbel3
   have hz3 := hg3.size
   clear hs3 hg3 hbel3
   go_wp2_with (at_builtin; refine wpList_append_own _ rfl _ _ 22 rfl (g + 1) 3 i0 (.int .i64 0) 1 8 Tryz.underlying22 hi hz0 hz1 hz2 rfl (by decide) _ _ _ rfl (hown3.alloc _) ⟨_, 0, none⟩ 1 1 [.int .i64 c] rfl rfl (cell_one_new _ _ _) ?c2 ?c3 ?c4 ?c5 ?_)
   case c2 => intro u hu; simp at hu; subst hu; rfl
   case c3 => unfold maxLen; omega
   case c4 => omega
   case c5 => simp; omega
   intro v' w4 hown4 hg4 _
   have hz4 := hg4.size
   have hI : Ints w4 (g + 1) v' (ys ++ [c]) := by unfold Ints; simpa using hown4
   have hB : Below w.heap.size w w4 := (HB3.out.alloc HB3.out.size _).grown hg4 (by have := HB3.out.size; simp; omega) (fun j hj => by have := (hown3.lt j hj).1; omega)
   have hS : Src w4 g r' := (HS3.out.alloc _).grown hg4 (fun j hj => by have := (hown3.lt j hj).1; omega)
   have HI2 := Lib.hid hI
   have HB := Lib.hid hB
   have HS := Lib.hid hS
   have hgw : g < w4.heap.size := by simp at hz4; omega
   have HG := Lib.hid hgw
   clear hI hB hS hgw hown4 hg4 hown3 hz4
   go_wp2
   go_roundw
   case rel => exact ⟨j, ys ++ [c], r', by omega, by go_num, by simp; omega, HE, HS, HI2, HG, HB⟩
   case measure => simp [intOf]
  ·obtain rfl : k = 0 := by omega
   have HE : Hid (ys = xs) := by
    have := ha.out
    simp [wdL] at this
    exact this
   have HO : Hid (Ints wr w.heap.size u4 xs) := by rw [← HE.out]; exact ownsRow_mono hown.out (by omega)
   have HB2 := Lib.hid hbel.out
   clear ha hown hbel
   go_wp2
   go_ret
   exact ⟨_, rfl, HO.out, HB2.out⟩
end Go.Proofs.YtopaojjodkoidaaGreatDoor
