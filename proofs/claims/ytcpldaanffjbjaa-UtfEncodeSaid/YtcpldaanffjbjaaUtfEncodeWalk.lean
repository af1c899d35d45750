/-
  The walk of UtfEncode.
-/
import Derived.Test.YtcpldaanffjbjaaRefD
import Derived.Test.YtcpldaanffjbjaaPick
namespace Go.Proofs.Ytcpldaanffjbjaa.utfEncodeW
open Go.RowKit

theorem refEncode_at (p : Option Addr) (cap n : Nat) (zs : List Int) (U : ByteArray) (er : Int) (w : World) (hr : IntsIn w p zs) (hs : zs.length ≤ maxLen) (hl : zs.length = n) (he : Hid (encodeS zs = (U, er))) :
    Calls Try.prog 13 #[.slice p n cap] w fun e w' => e = .returned (.tuple #[.string U, .int .i64 er]) ∧ Below w.heap.size w w' := by
  subst hl
  have := refEncode_any p cap zs w hr hs
  rw [he.out] at this
  exact this

theorem pick_at (v n q : Int) (w : World) (h0 : 1 ≤ n) (h1 : n ≤ 1073741824) (hq : Hid (pickS v n = q)) :
    Calls Try.prog 11 #[.int .i64 v, .int .i64 n] w fun e w' => e = .returned (.int .i64 q) ∧ w = w' := hq.out ▸ pick_any v n w h0 h1

set_option maxRecDepth 100000 in
set_option maxHeartbeats 4000000 in
theorem walk (a0 : Option Addr) (len0 cap0 : Nat) (z0 : List Int) (c shift : Int) (w : World) (w0 : IsRow .i64 w a0 len0 cap0 z0) (_ : (Lit.int .i64 c).wf = true) (_ : (Lit.int .i64 shift).wf = true) :
    Calls Try.prog 4 #[.slice a0 len0 cap0, .int .i64 c, .int .i64 shift] w fun e w' => e = .returned (.bool true) ∧ Below w.heap.size w w' := by
  obtain ⟨zs, rfl, hzl, hzs, _⟩ := w0.inn
  simp only [IntKind.bits] at hzl
  have hl : zs.length ≤ maxLen := by unfold maxLen; omega
  obtain ⟨hq0, hq1⟩ := pickS_bd shift 64 (by omega)
  obtain ⟨q, hq⟩ : ∃ q, pickS shift 64 = q := ⟨_, rfl⟩
  rw [hq] at hq0 hq1
  have HQ := Lib.hid hq
  clear hq w0
  obtain ⟨U, er, he⟩ : ∃ U er, encodeS zs = (U, er) := ⟨_, _, rfl⟩
  have HE := Lib.hid he
  have HZ := Lib.hid hzs
  have HL := Lib.hid hl
  clear he hzs hl
  go_enter Try.func4, Try.ntmps4
  go_wp2_with fail
  refine (pick_at _ _ q _ (by omega) (by omega) HQ).mono ?_
  rintro e w' ⟨rfl, rfl⟩
  go_wp2_with fail
  refine (encode_at _ _ _ zs U er _ HZ.out HL.out rfl HE).mono ?_
  rintro e w1 ⟨rfl, hb1⟩
  have HB1 := Lib.hid hb1
  clear hb1
  go_wp2_with fail
  refine (refEncode_at _ _ _ zs U er _ (HZ.out.below HB1.out) HL.out rfl HE).mono ?_
  rintro e w2 ⟨rfl, hb2⟩
  have HB2 := Lib.hid (HB1.out.trans (hb2.mono HB1.out.size))
  clear hb2 HB1
  go_wp2_with fail
  generalize hS : (_ / _ : Int) = S
  clear hS
  obtain ⟨V, es, hv⟩ : ∃ V es, encodeS [S] = (V, es) := ⟨_, _, rfl⟩
  have HV := Lib.hid hv
  clear hv
  refine (encode_at _ _ _ [S] V es _ (ints_lit_new w2 _ [S] _ rfl) (by simp [maxLen]) rfl HV).mono ?_
  rintro e w3 ⟨rfl, hb3⟩
  have HB3 := Lib.hid ((HB2.out.alloc HB2.out.size _).trans (hb3.mono (by have := HB2.out.size; simp; omega)))
  clear hb3 HB2
  go_wp2_with fail
  refine (refEncode_at _ _ _ [S] V es _ (ints_lit_new w3 _ [S] _ rfl) (by simp [maxLen]) rfl HV).mono ?_
  rintro e w4 ⟨rfl, hb4⟩
  have HB4 := Lib.hid ((HB3.out.alloc HB3.out.size _).trans (hb4.mono (by have := HB3.out.size; simp; omega)))
  clear hb4 HB3
  go_wp2_with (first
    | (go_at_call 9; refine (awake_any _).mono ?_; rintro e w5 ⟨rfl, hb5⟩)
    | (go_at_call 14; refine (length_any _ _).mono ?_; rintro e w6 ⟨rfl, rfl⟩)
    | (go_at_call 15; refine (refLength_any _ _).mono ?_; rintro e w7 ⟨rfl, rfl⟩))
  go_ret
  exact ⟨rfl, HB4.out.trans (hb5.mono HB4.out.size)⟩

end Go.Proofs.Ytcpldaanffjbjaa.utfEncodeW
