/-
  The walk of PunyUnique.
-/
import Derived.Test.YtaakdcelbnghoaaQPunEnv
set_option linter.unusedSimpArgs false
set_option linter.unusedVariables false
namespace Go.Proofs.Ytaakdcelbnghoaa.punyUniqueW
open Go.RowKit

def NumOk (l : List Int) : Prop := ∀ c ∈ l, 0 ≤ c ∧ ¬ (65 ≤ c ∧ c ≤ 90)
theorem lit_ok : ∀ q, q < 20 → ∀ c ∈ nums ((ByteArray.mk #[97, 98, 107, 122, 48, 57, 45, 121, 120, 57, 45, 97, 97, 98, 99, 100, 101, 102, 103, 104]).extract q (q + 1)), 0 ≤ c ∧ ¬ (65 ≤ c ∧ c ≤ 90) := by decide +kernel
theorem NumOk.app {T X : ByteArray} (h : NumOk (nums T)) (k : NumOk (nums X)) : NumOk (nums (T ++ X)) := by
  intro c hc
  rw [nums_append] at hc
  rcases List.mem_append.1 hc with hc | hc
  · exact h c hc
  · exact k c hc
theorem strOf_numsU (s : ByteArray) : strOfNums (nums s) = s := by
  apply ByteArray.ext
  apply Array.ext'
  have e : ((fun n : Int => UInt8.ofNat n.toNat) ∘ fun b : UInt8 => (b.toNat : Int)) = id := by funext b; simp
  simp [strOfNums, nums, e]

set_option maxRecDepth 100000 in
set_option maxHeartbeats 4000000 in
theorem walk (a0 : Option Addr) (len0 cap0 : Nat) (z0 : List Int) (w : World) (w0 : IsRow .u8 w a0 len0 cap0 z0) :
    Calls Try.prog 7 #[.slice a0 len0 cap0] w fun e w' => e = .returned (.bool true) ∧ Below w.heap.size w w' := by
  obtain ⟨xs, rfl, hxl, hxs, hwf⟩ := w0.inn
  simp only [IntKind.bits] at hxl
  have HX := Lib.hid hxs
  have HW := Lib.hid hwf
  clear hxs w0 hwf
  go_enter Try.func7, Try.ntmps7
  go_wp2
  go_loopw [3, 4] (fun t i wr => ∃ k : Nat, ∃ T : ByteArray, k ≤ 30 ∧ i = .int .i64 k ∧ t = .string T ∧ T.size ≤ k ∧ Hid (NumOk (nums T)) ∧ Hid (Below w.heap.size w wr)) (fun _ i _ => 30 - (intOf i).toNat)
  case atStart => exact ⟨0, ByteArray.empty, by omega, rfl, rfl, by simp, (fun c hc => by cases hc), Below.refl _ _⟩
  case round =>
    obtain ⟨k, T, hk, rfl, rfl, hT, hok, hbel⟩ := hrel
    by_cases hlt : k < xs.length ∧ k < 30
    · obtain ⟨hlt1, hlt2⟩ := hlt
      obtain ⟨b, off, rfl, hck⟩ := (HX.out.below hbel.out) k hlt1
      have hx := bounds_u8 (HW.out _ (List.getElem_mem hlt1))
      obtain ⟨x, hxx⟩ : ∃ x, xs.getD k 0 = x := ⟨_, rfl⟩
      have hxe : x = xs[k] := by rw [← hxx]; simp [hlt1]
      rw [← hxe] at hx
      obtain ⟨hx0, hx1⟩ := hx
      clear hxe
      rw [hxx] at hck
      obtain ⟨q, hq⟩ : ∃ q : Nat, x % 20 = (q : Int) := ⟨(x % 20).toNat, by omega⟩
      have hq1 : q < 20 := by omega
      obtain ⟨X, hX⟩ : ∃ X, (ByteArray.mk #[97, 98, 107, 122, 48, 57, 45, 121, 120, 57, 45, 97, 97, 98, 99, 100, 101, 102, 103, 104]).extract q (q + 1) = X := ⟨_, rfl⟩
      have hXs : X.size ≤ 1 := by rw [← hX, ByteArray.size_extract]; omega
      have hsz : (T ++ X).size ≤ k + 1 := by rw [ByteArray.size_append]; omega
      have HXO : Hid (NumOk (nums X)) := by unfold Hid; rw [← hX]; exact lit_ok q hq1
      have HS := Lib.hid hsz
      have HNO : Hid (NumOk (nums (T ++ X))) := hok.out.app HXO.out
      clear hsz hxx HXO hok
      go_upto_region 5 with (fail)
      go_quiet (fail)
      go_wp2
      go_roundw
      case rel => exact ⟨k + 1, T ++ X, by omega, by go_num, rfl, HS.out, HNO, below_drewN hbel.out _⟩
      case measure => simp [intOf]; omega
    · have hout : xs.length ≤ k ∨ (k < xs.length ∧ 30 ≤ k) := by omega
      clear hlt
      obtain ⟨out, er, hE⟩ : ∃ out er, decP (nums T) = (out, er) := ⟨_, _, rfl⟩
      have hlen : (nums T).length ≤ 30 := by rw [nums_length]; omega
      have hcase : (er = 0 ∧ encP out = (nums T, 0) ∧ out.length ≤ 30) ∨ (out = [] ∧ er = 12) ∨ (out = [] ∧ er = 8) := by
        rcases (decP_out hE).2 with ⟨h1, _⟩ | ⟨h1, h2 | h2 | ⟨_, h3⟩⟩
        · subst h1
          obtain ⟨g1, g2, _⟩ := uniq_ok (nums T) out (fun c hc => (hok.out c hc).1) (fun c hc => (hok.out c hc).2) (by omega) hE
          exact .inl ⟨rfl, g1, by omega⟩
        · exact .inr (.inl ⟨h1, h2⟩)
        · exact .inr (.inr ⟨h1, h2⟩)
        · omega
      have HE := Lib.hid hE
      have HB := Lib.hid hbel.out
      have HST : Hid (strOfNums (nums T) = T) := strOf_numsU T
      clear hE hok hbel hlen
      rcases hout with ho | ⟨ho, ho2⟩
      all_goals
        go_wp2_with fail
        refine (pdecode_at T out er _ (by omega) HE).mono ?_
        rintro e w2 ⟨v2, rfl, hi2, hb2⟩
        have HB2 := Lib.hid (HB.out.trans (hb2.mono HB.out.size))
        obtain ⟨p2, c2, rfl, hin2, hc2, _⟩ := Ints.cap2 hi2
        have HI2 := Lib.hid hin2
        clear hb2 hi2 hin2
        rcases hcase with ⟨rfl, h1, h2⟩ | ⟨rfl, rfl⟩ | ⟨rfl, rfl⟩
        · have HN := Lib.hid h1
          obtain ⟨n, hn⟩ : ∃ n, out.length = n := ⟨_, rfl⟩
          have HL := Lib.hid hn
          rw [hn] at hc2 h2
          rw [hn]
          clear h1 hn
          go_wp2_with fail
          refine (encode_at p2 n c2 out (nums T) 0 T _ HI2.out HL hc2 (by omega) HN HST).mono ?_
          rintro e w3 ⟨rfl, hb3⟩
          have HB3 := Lib.hid (HB2.out.trans (hb3.mono HB2.out.size))
          clear hb3
          go_wp2_with fail
          refine (awake10_any _).mono ?_
          rintro e w4 ⟨rfl, hb4⟩
          have HB4 := Lib.hid (HB3.out.trans (hb4.mono HB3.out.size))
          clear hb4
          go_wp2
          go_ret
          exact ⟨rfl, HB4.out⟩
        all_goals
          go_wp2_with fail
          refine (awake10_any _).mono ?_
          rintro e w4 ⟨rfl, hb4⟩
          have HB4 := Lib.hid (HB2.out.trans (hb4.mono HB2.out.size))
          clear hb4
          go_wp2
          go_ret
          exact ⟨rfl, HB4.out⟩

end Go.Proofs.Ytaakdcelbnghoaa.punyUniqueW
