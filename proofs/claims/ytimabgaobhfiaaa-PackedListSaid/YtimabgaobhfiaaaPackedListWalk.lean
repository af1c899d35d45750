/-
  The walk of PackedList.
-/
import Derived.Test.YtimabgaobhfiaaaPakLaw
import Derived.Deep.RegionHeld3
namespace Go.Proofs.Ytimabgaobhfiaaa.packedListW
open Go.RowKit

theorem step_append_ints {w : World} {ops : Array Oper} {o : Oper} {a : Act} {K : Act → World → Prop} {Q : Exit → Act → World → Prop} {E : Prop} (hgd : o.guard = none) (s x : Operand)
    (ho : o.op = .call { callee := .builtin .append, args := #[s, x], argTypes := #[27, 27] })
    (base : Nat) (v : Value) (xs : List Int) (hs : a.eval s = v) (hown : Ints w base v xs)
    (p : Option Addr) (m c : Nat) (ys : List Int) (hm : ys.length = m) (hx : a.eval x = .slice p m c) (hin : IntsIn w p ys)
    (hlen : xs.length + ys.length ≤ 17592186043904) (hbase : base ≤ w.heap.size)
    (h : ∀ v' w', Ints w' base v' (xs ++ ys) → w.grownBy w' v.ownBlock → K (a.put o.dst v') w') :
    if Region.wanted o (yielded ops a.tmps) = true then Oper.wp Try.prog o a w K Q else E := by
  have hw : Region.wanted o (yielded ops a.tmps) = true := by simp [Region.wanted, hgd]
  rw [if_pos hw]
  exact wp_append_ints s x ho base v xs hs hown p m c ys hm hx hin hlen hbase h

theorem ints_one (w : World) (y : Int) (ty : TypeId) : IntsIn (w.alloc (.cells #[.int .i64 y] ty)) (some ⟨w.heap.size, 0, none⟩) [y] := by
  intro k hk
  obtain rfl : k = 0 := by simp at hk; omega
  exact ⟨_, _, rfl, by simp [World.cell?_alloc_new]⟩

theorem pickQ_at (v n q : Int) (w : World) (h0 : 1 ≤ n) (h1 : n ≤ 1125899906842624) (hq : Hid (pickS v n = q)) :
    Calls Try.prog 13 #[.int .i64 v, .int .i64 n] w fun e w' => e = .returned (.int .i64 q) ∧ w' = w :=
  (pickP_at v n q w h0 h1 hq).mono fun _ _ ⟨a, b⟩ => ⟨a, b.symm⟩

set_option maxRecDepth 100000 in
set_option maxHeartbeats 4000000 in
theorem walk (b behind : ByteArray) (a2 : Option Addr) (len2 cap2 : Nat) (z2 : List Int) (shift : Int) (w : World) (w0 : b.size ≤ 140737488351232) (w1 : behind.size ≤ 140737488351232) (w2 : IsRow .i64 w a2 len2 cap2 z2) (_ : (Lit.int .i64 shift).wf = true) :
    Calls Try.prog 6 #[.string b, .string behind, .slice a2 len2 cap2, .int .i64 shift] w fun e w' => e = .returned (.bool true) ∧ Below w.heap.size w w' := by
  obtain ⟨xs, rfl, hxl, hxs, _⟩ := w2.inn
  simp only [IntKind.bits] at hxl
  have HX := Lib.hid hxs
  clear hxs w2
  obtain ⟨q, HQ, hq0, hq1⟩ := pick_name shift 60 (by omega)
  go_enter Try.func6, Try.ntmps6
  go_wp2
  go_loopw [9, 10] (fun v i wr => ∃ (k : Nat) (P : List Int), k ≤ 100 ∧ i = .int .i64 k ∧ P.length ≤ k ∧ Hid (∀ x ∈ P, modB x = true) ∧ Hid (Ints wr w.heap.size v P) ∧ Hid (Below w.heap.size w wr)) (fun _ i _ => 100 - (intOf i).toNat)
  case atStart => exact ⟨0, [], by omega, rfl, Nat.zero_le _, by simp [Hid], Ints.nil _ _, Below.refl _ _⟩
  case round =>
    obtain ⟨k, P, hk, rfl, hP, hall, ho, hbel⟩ := hrel
    by_cases hlt : k < xs.length ∧ k < 100
    · obtain ⟨hlt1, hlt2⟩ := hlt
      obtain ⟨g, off, rfl, hck⟩ := (HX.out.below hbel.out) k hlt1
      obtain ⟨x, hx⟩ : ∃ x, xs.getD k 0 = x := ⟨_, rfl⟩
      rw [hx] at hck
      obtain ⟨y, hy⟩ : ∃ y : Int, x / 2 ^ q.toNat = y := ⟨_, rfl⟩
      obtain ⟨z, HZ, hz0, hz1⟩ := pick_name y 2147483649 (by omega)
      have hw0 : IntKind.u64.wrap q = q := by rw [IntKind.wrap_u64]; omega
      have hw1 : IntKind.i64.wrap (z - 1073741824) = z - 1073741824 := IntWalk.i64_in _ (by omega)
      have HA : Hid (∀ x ∈ P ++ [z - 1073741824], modB x = true) := by
        intro v hv
        rcases List.mem_append.1 hv with hv | hv
        · exact hall.out v hv
        · rw [List.mem_singleton] at hv; subst hv; rw [modB_iff]; omega
      have HP : Hid (P.length + ([z - 1073741824] : List Int).length ≤ 17592186043904) := by unfold Hid; simp; omega
      have hgw : g < w.heap.size := by
        obtain ⟨g', off', e', hc'⟩ := HX.out k hlt1
        injection e' with e'
        injection e' with e1 e2
        subst e1
        exact World.block_lt_of_cell? w _ hc'
      have hneg : some g ≠ Value.ownBlock u9 := fun e => by have := ho.out.base _ e.symm; omega
      have hlb := World.block_lt_of_cell? wr _ hck
      simp only at hlb
      clear hx hall
      go_upto_region 5 with (fail)
      go_region_held3 (fun w' => w'.cell? ⟨g, off + k, none⟩ = some (.int .i64 x))
        (first | go_keep | (rw [hg6.cell_far _ (by simp; omega) hneg]; assumption))
        (first
          | (go_at_call 13; (with_reducible refine (pickQ_at shift 60 q _ (by omega) (by omega) HQ).mono ?_); rintro e w5 ⟨rfl, rfl⟩)
          | (go_at_call 13; (with_reducible refine (pickQ_at y 2147483649 z _ (by omega) (by omega) HZ).mono ?_); rintro e w5 ⟨rfl, rfl⟩)
          | (refine step_append_ints (by rfl) _ _ (by rfl) w.heap.size _ P (by rfl) (ho.out.alloc _) (some ⟨wr.heap.size, 0, none⟩) 1 1 [z - 1073741824] rfl (by rfl) (ints_one wr (z - 1073741824) 3) HP.out (by have := hbel.out.size; show _ ≤ (wr.alloc _).heap.size; simp; omega) ?_; intro v6 w6 ho6 hg6))
      have HO6 := Lib.hid ho6
      have HB6 := Lib.hid ((hbel.out.alloc hbel.out.size (.cells #[.int .i64 (z - 1073741824)] 3)).grown ⟨hg6.os, hg6.tape, hg6.output, hg6.size, hg6.block⟩ (by have := hbel.out.size; simp; omega) ho.out.base)
      clear ho6 hg6 hneg hlb hgw hck
      go_wp2
      go_roundw
      case rel => exact ⟨k + 1, P ++ [z - 1073741824], by omega, by go_num, by simp; omega, HA, HO6, HB6⟩
      case measure => simp [intOf]; omega
    · have hout : xs.length ≤ k ∨ (k < xs.length ∧ 100 ≤ k) := by omega
      obtain ⟨hp, hg⟩ := list_back b behind P (by omega) hall.out
      have hes := encL_size P 0
      have hps := (putB_size (P.length : Int)).2
      obtain ⟨X, hX⟩ : ∃ X, b ++ putB (P.length : Int) ++ encL 0 P = X := ⟨_, rfl⟩
      have hXs : X.size ≤ b.size + 2000 := by rw [← hX, ByteArray.size_append, ByteArray.size_append]; omega
      rw [hX] at hp hg
      have HP := Lib.hid hp
      have HG := Lib.hid hg
      have HLM : Hid (P.length ≤ maxLen) := by unfold Hid maxLen; omega
      have HM : Hid ((X ++ behind).size ≤ maxLen) := by unfold Hid maxLen; rw [ByteArray.size_append]; omega
      obtain ⟨p, cp, rfl, hin⟩ := ho.out.inn
      have HI := Lib.hid hin
      clear hlt hp hg hX hes hps ho hin
      rcases hout with ho | ⟨ho, ho2⟩
      all_goals
        go_wp2_with fail
        refine (putList_any b _ _ _ P X 0 _ w0 rfl HLM.out HI.out HP).mono ?_
        rintro e w2 ⟨rfl, hb2⟩
        have HI2 := Lib.hid (HI.out.below hb2)
        have HB2 := Lib.hid (hbel.out.trans (hb2.mono hbel.out.size))
        clear hb2
        go_wp2_with fail
        refine (getList_any _ _ P X.size 0 _ HM.out HG).mono ?_
        rintro e w3 ⟨p3, c3, rfl, hi3, hb3⟩
        have HI3 := Lib.hid (HI2.out.below hb3)
        have HB3 := Lib.hid (HB2.out.trans (hb3.mono HB2.out.size))
        clear hb3
        go_wp2_with fail
        refine (awake_any _).mono ?_
        rintro e w4 ⟨rfl, hb4⟩
        have HI4 := Lib.hid (HI3.out.below hb4)
        have HJ4 := Lib.hid (hi3.out.below hb4)
        have HB4 := Lib.hid (HB3.out.trans (hb4.mono HB3.out.size))
        clear hb4 hi3
        go_wp2_with fail
        refine (sameI_at _ _ _ _ _ _ P _ HJ4.out HI4.out (Lib.hid rfl) (Lib.hid rfl) HLM.out).mono ?_
        rintro e w5 ⟨rfl, hb5⟩
        have HB5 := Lib.hid (HB4.out.trans (hb5.mono HB4.out.size))
        clear hb5
        go_wp2
        go_ret
        exact ⟨rfl, HB5.out⟩

end Go.Proofs.Ytimabgaobhfiaaa.packedListW
