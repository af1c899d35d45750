/-
  The walk of PackedSpans.
-/
import Derived.Test.YtimabgaobhfiaaaPakLaw
import Derived.Test.YtimabgaobhfiaaaRanKeep
namespace Go.Proofs.Ytimabgaobhfiaaa.packedSpansW
open Go.RowKit

theorem spanLoop_small (n : Nat) (r : List Int) (a : Int) : ∀ s ∈ spanLoop n r a, modB s.2.2 = true := by
  induction n generalizing r a with
  | zero => intro s hs; cases hs
  | succ n ih =>
    intro s hs
    rw [spanLoop, List.mem_cons] at hs
    rcases hs with rfl | hs
    · obtain ⟨x0, x1⟩ := nextV_bd r.tail 3 (by omega)
      rw [modB_iff]; simp only; omega
    · exact ih _ _ s hs

theorem spansS_small (l : List Int) : ∀ s ∈ spansS l, modB s.2.2 = true := spanLoop_small _ _ _

set_option maxRecDepth 100000 in
set_option maxHeartbeats 4000000 in
theorem walk (b behind : ByteArray) (a2 : Option Addr) (len2 cap2 : Nat) (z2 : List Int) (w : World) (w0 : b.size ≤ 140737488351232) (w1 : behind.size ≤ 140737488351232) (w2 : IsRow .i64 w a2 len2 cap2 z2) :
    Calls Try.prog 7 #[.string b, .string behind, .slice a2 len2 cap2] w fun e w' => e = .returned (.bool true) ∧ Below w.heap.size w w' := by
  obtain ⟨xs, rfl, hxl, hxs, _⟩ := w2.inn
  simp only [IntKind.bits] at hxl
  have HX := Lib.hid hxs
  clear hxs w2
  obtain ⟨L, hL⟩ : ∃ L, spansS xs = L := ⟨_, rfl⟩
  have hsb := spans_back b behind (spansS xs) (spansS_valid xs) (spansS_small xs)
  have hlen := (spansS_facts xs).1
  rw [hL] at hsb hlen
  obtain ⟨hp, hg⟩ := hsb
  have hes := encS_size L 0
  have hps := (putB_size (L.length : Int)).2
  obtain ⟨X, hX⟩ : ∃ X, b ++ putB (L.length : Int) ++ encS 0 L = X := ⟨_, rfl⟩
  have hXs : X.size ≤ b.size + 200 := by rw [← hX, ByteArray.size_append, ByteArray.size_append]; omega
  rw [hX] at hp hg
  have HL := Lib.hid hL
  have HP := Lib.hid hp
  have HG := Lib.hid hg
  have HLM : Hid (L.length ≤ maxLen) := by unfold Hid maxLen; omega
  have HM : Hid ((X ++ behind).size ≤ maxLen) := by unfold Hid maxLen; rw [ByteArray.size_append]; omega
  clear hL hp hg hX hes hps
  go_enter Try.func7, Try.ntmps7
  go_wp2_with fail
  refine (kspans_any _ _ _ xs _ HX.out rfl (by omega)).mono ?_
  rintro e w1 ⟨v1, rfl, ho1, hb1⟩
  rw [HL.out] at ho1
  obtain ⟨p1, c1, rfl, hi1⟩ := ho1.inn
  have HI1 := Lib.hid hi1
  have HB1 := Lib.hid hb1
  clear ho1 hi1 hb1
  go_wp2_with fail
  refine (putSpans_any b _ _ _ L X 0 _ w0 rfl HLM.out HI1.out HP).mono ?_
  rintro e w2 ⟨rfl, hb2⟩
  have HI2 := Lib.hid (HI1.out.below hb2)
  have HB2 := Lib.hid (HB1.out.trans (hb2.mono HB1.out.size))
  clear hb2
  go_wp2_with fail
  refine (getSpans_any _ _ L X.size 0 _ HM.out HG).mono ?_
  rintro e w3 ⟨p3, c3, rfl, hi3, hb3⟩
  have HI3 := Lib.hid (HI2.out.below hb3)
  have HB3 := Lib.hid (HB2.out.trans (hb3.mono HB2.out.size))
  clear hb3
  go_wp2_with fail
  refine (awake_any _).mono ?_
  rintro e w4 ⟨rfl, hb4⟩
  have HI4 := Lib.hid (HI3.out.below hb4)
  have HJ4 := Lib.hid (hi3.out.below hb4)
  have HB4 := Lib.hid (HB3.out.trans (hb4.mono HB3.out.size))
  clear hb4 hi3
  go_wp2_with fail
  refine (sameS_at _ _ _ _ _ _ L _ HJ4.out HI4.out (Lib.hid rfl) (Lib.hid rfl) HLM.out).mono ?_
  rintro e w5 ⟨rfl, hb5⟩
  have HB5 := Lib.hid (HB4.out.trans (hb5.mono HB4.out.size))
  clear hb5
  go_wp2
  go_ret
  exact ⟨rfl, HB5.out⟩

end Go.Proofs.Ytimabgaobhfiaaa.packedSpansW
