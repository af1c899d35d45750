/-
  The walk of HangulClosed.
-/
import Derived.Test.YtnhldkneeegohaaHanLaw
import Derived.Test.YtnhldkneeegohaaAppend
namespace Go.Proofs.Ytnhldkneeegohaa.hangulClosedW
open Go.RowKit

theorem one_int (w : World) (z : Int) (ty : TypeId) : IntsIn (w.alloc (.cells #[.int .i64 z] ty)) (some ⟨w.heap.size, 0, none⟩) [z] := by
  intro k hk
  obtain rfl : k = 0 := by simp at hk; omega
  refine ⟨_, _, rfl, ?_⟩
  simp [World.cell?_alloc_new]

theorem wpList_append_int {W : World} {ops : Array Oper} {rest : List Oper} {o : Oper} {a : Act} {Q : Exit → Act → World → Prop} (s x : Operand)
    (ho : o.op = .call { callee := .builtin .append, args := #[s, x], argTypes := #[27, 27] })
    (hw : Region.wanted o (yielded ops a.tmps) = true)
    (base : Nat) (v : Value) (xs : List Int) (hs : a.eval s = v) (hown : Ints W base v xs)
    (z : Int) (c g : Nat) (hx : a.eval x = .slice (some ⟨g, 0, none⟩) 1 c) (hg : g = W.heap.size)
    (hlen : xs.length ≤ 1099511627775) (hbase : base ≤ W.heap.size)
    (h : ∀ v' w', Ints w' base v' (xs ++ [z]) → W.grownBy w' v.ownBlock → wpList Try.prog ops Q rest (a.put o.dst v') w') : wpList Try.prog ops Q (o :: rest) a (W.alloc (.cells #[.int .i64 z] 3)) := by
  subst hg
  refine wpList_append_ints s x ho hw base v xs hs (World.ownsRow.alloc hown _) _ 1 c [z] rfl hx (one_int W z _) (by simp; omega) (by simp; omega) ?_
  intro v' w' h1 h2
  refine h v' w' h1 ?_
  have hA := World.grownBy_alloc W (.cells #[.int .i64 z] 3) v.ownBlock
  exact ⟨h2.os.trans hA.os, h2.tape.trans hA.tape, h2.output.trans hA.output, Nat.le_trans hA.size h2.size, fun i hi hne => (h2.block i (Nat.lt_of_lt_of_le hi hA.size) hne).trans (hA.block i hi hne)⟩


set_option maxRecDepth 100000 in
set_option maxHeartbeats 1000000 in
theorem walk (v u : Int) (_ : (Lit.int .i64 v).wf = true) (_ : (Lit.int .i64 u).wf = true) (w : World) :
    Calls Try.prog 7 #[.int .i64 v, .int .i64 u] w fun e w' => e = .returned (.bool true) ∧ Below w.heap.size w w' := by
  go_enter Try.func7, Try.ntmps7
  go_wp2_with fail
  refine (near_any v _).mono ?_
  rintro e w' ⟨a, rfl, rfl⟩
  go_wp2_with fail
  refine (near_any u _).mono ?_
  rintro e w' ⟨b, rfl, rfl⟩
  obtain ⟨x, o, hx⟩ : ∃ x o, compS a b = (x, o) := ⟨_, _, rfl⟩
  obtain ⟨L, hL⟩ : ∃ L, flatS a = L := ⟨_, rfl⟩
  have hll : L.length ≤ 3 := by
    rw [← hL]; unfold flatS; split
    · simp
    · exact decS_len a
  have HL := Lib.hid hL
  have HX := Lib.hid hx
  rcases compS_cases hx with ⟨rfl, k1, k2, h3⟩ | ⟨rfl, k1, k2, h3⟩ | ⟨rfl, rfl⟩
  · have hr := comp_lv k1 k2 h3
    rw [hL] at hr
    have K1 := Lib.hid k1
    have KX := Lib.hid hr.1
    have HD := Lib.hid hr.2
    have LL : Hid ((L ++ [b]).length ≤ maxLen) := by unfold Hid maxLen; simp; omega
    have LK : Hid (([] : List Int).length + L.length ≤ 17592186043904) := by unfold Hid; simp; omega
    have LM : Hid ((([] : List Int) ++ L).length ≤ 1099511627775) := by unfold Hid; simp; omega
    clear hx hL hll k1 k2 h3 hr
    go_wp2_with fail
    refine (hcomp_at a b x true _ HX).mono ?_
    rintro e w' ⟨rfl, rfl⟩
    go_wp2_with fail
    refine (kind_at x 4 _ KX).mono ?_
    rintro e w' ⟨rfl, rfl⟩
    go_wp2_with fail
    refine (awake_any _).mono ?_
    rintro e w1 ⟨rfl, hb1⟩
    have HB1 := Lib.hid hb1
    clear hb1
    go_wp2_with fail
    refine (kind_at a 1 _ K1).mono ?_
    rintro e w' ⟨rfl, rfl⟩
    go_wp2_with fail
    refine (hdec_at x (L ++ [b]) _ HD).mono ?_
    rintro e w2 ⟨p2, c2, rfl, hi2, hb2⟩
    have HB2 := Lib.hid (HB1.out.trans (hb2.mono HB1.out.size))
    clear hb2
    go_wp2_with fail
    refine (flat_at a L _ HL).mono ?_
    rintro e w3 ⟨p3, c3, rfl, hi3, hb3⟩
    have HI2 := Lib.hid (hi2.below hb3)
    have HI3 := Lib.hid hi3
    have HB3 := Lib.hid (HB2.out.trans (hb3.mono HB2.out.size))
    clear hb3 hi2 hi3
    go_wp2_with (first
      | (at_builtin; refine wpList_append_ints (.const (.slice none 0 0)) (.tmp 52) rfl rfl w3.heap.size (.slice none 0 0) [] rfl (Ints.nil _ _) _ _ _ L rfl rfl HI3.out LK.out (Nat.le_refl _) ?_; intro v4 w4 ho4 hg4)
      | (at_builtin; refine wpList_append_int (.tmp 53) (.tmp 55) rfl rfl w3.heap.size v4 ([] ++ L) rfl ho4 b _ w4.heap.size rfl rfl LM.out hg4.size ?_; intro v5 w5 ho5 hg5))
    rw [List.nil_append] at ho4 ho5
    have hJ5 : IntsIn w5 p2 (L ++ [b]) := HI2.out.older (HI2.out.grownNone hg4) hg5 (fun k hk => (ho4.lt k hk).1)
    have HB5 := Lib.hid ((HB3.out.grown hg4 HB3.out.size (by simp [Value.ownBlock])).grown hg5 (Nat.le_trans HB3.out.size hg4.size) (fun k hk => Nat.le_trans HB3.out.size (ho4.lt k hk).1))
    obtain ⟨p5, c5, rfl, hi5⟩ := ho5.inn
    refine (sameI_at _ _ _ _ _ _ (L ++ [b]) _ hJ5 hi5 (by simp [Hid]) (by simp [Hid]) LL.out).mono ?_
    rintro e w6 ⟨rfl, hb6⟩
    have HB6 := Lib.hid (HB5.out.trans (hb6.mono HB5.out.size))
    clear hb6 hJ5 hi5 ho4 hg4 hg5
    go_wp2
    go_ret
    exact ⟨rfl, HB6.out⟩
  · have hr := comp_lvt k1 k2 h3
    rw [hL] at hr
    have K1 := Lib.hid k1
    have KX := Lib.hid hr.1
    have HD := Lib.hid hr.2
    have LL : Hid ((L ++ [b]).length ≤ maxLen) := by unfold Hid maxLen; simp; omega
    have LK : Hid (([] : List Int).length + L.length ≤ 17592186043904) := by unfold Hid; simp; omega
    have LM : Hid ((([] : List Int) ++ L).length ≤ 1099511627775) := by unfold Hid; simp; omega
    clear hx hL hll k1 k2 h3 hr
    go_wp2_with fail
    refine (hcomp_at a b x true _ HX).mono ?_
    rintro e w' ⟨rfl, rfl⟩
    go_wp2_with fail
    refine (kind_at x 5 _ KX).mono ?_
    rintro e w' ⟨rfl, rfl⟩
    go_wp2_with fail
    refine (awake_any _).mono ?_
    rintro e w1 ⟨rfl, hb1⟩
    have HB1 := Lib.hid hb1
    clear hb1
    go_wp2_with fail
    refine (kind_at a 4 _ K1).mono ?_
    rintro e w' ⟨rfl, rfl⟩
    go_wp2_with fail
    refine (hdec_at x (L ++ [b]) _ HD).mono ?_
    rintro e w2 ⟨p2, c2, rfl, hi2, hb2⟩
    have HB2 := Lib.hid (HB1.out.trans (hb2.mono HB1.out.size))
    clear hb2
    go_wp2_with fail
    refine (flat_at a L _ HL).mono ?_
    rintro e w3 ⟨p3, c3, rfl, hi3, hb3⟩
    have HI2 := Lib.hid (hi2.below hb3)
    have HI3 := Lib.hid hi3
    have HB3 := Lib.hid (HB2.out.trans (hb3.mono HB2.out.size))
    clear hb3 hi2 hi3
    go_wp2_with (first
      | (at_builtin; refine wpList_append_ints (.const (.slice none 0 0)) (.tmp 52) rfl rfl w3.heap.size (.slice none 0 0) [] rfl (Ints.nil _ _) _ _ _ L rfl rfl HI3.out LK.out (Nat.le_refl _) ?_; intro v4 w4 ho4 hg4)
      | (at_builtin; refine wpList_append_int (.tmp 53) (.tmp 55) rfl rfl w3.heap.size v4 ([] ++ L) rfl ho4 b _ w4.heap.size rfl rfl LM.out hg4.size ?_; intro v5 w5 ho5 hg5))
    rw [List.nil_append] at ho4 ho5
    have hJ5 : IntsIn w5 p2 (L ++ [b]) := HI2.out.older (HI2.out.grownNone hg4) hg5 (fun k hk => (ho4.lt k hk).1)
    have HB5 := Lib.hid ((HB3.out.grown hg4 HB3.out.size (by simp [Value.ownBlock])).grown hg5 (Nat.le_trans HB3.out.size hg4.size) (fun k hk => Nat.le_trans HB3.out.size (ho4.lt k hk).1))
    obtain ⟨p5, c5, rfl, hi5⟩ := ho5.inn
    refine (sameI_at _ _ _ _ _ _ (L ++ [b]) _ hJ5 hi5 (by simp [Hid]) (by simp [Hid]) LL.out).mono ?_
    rintro e w6 ⟨rfl, hb6⟩
    have HB6 := Lib.hid (HB5.out.trans (hb6.mono HB5.out.size))
    clear hb6 hJ5 hi5 ho4 hg4 hg5
    go_wp2
    go_ret
    exact ⟨rfl, HB6.out⟩
  · clear hx hL hll
    go_wp2_with fail
    refine (hcomp_at a b 0 false _ HX).mono ?_
    rintro e w' ⟨rfl, rfl⟩
    go_wp2_with fail
    refine (awake_any _).mono ?_
    rintro e w1 ⟨rfl, hb1⟩
    have HB1 := Lib.hid hb1
    clear hb1
    go_wp2
    go_ret
    exact ⟨rfl, HB1.out⟩

end Go.Proofs.Ytnhldkneeegohaa.hangulClosedW
