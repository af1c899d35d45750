/-
  table: a test of the elements of a list, by a function value.
-/
import Derived.Test.YtmkaclfjekjabaaDoorTabN
import Derived.Test.YtmkaclfjekjabaaDoorTabB
import Derived.Shelf.Abstract
namespace Go.Proofs.YtmkaclfjekjabaaDoor
open Go.RowKit

/-- The function value (g, cb) tests a span by p, in every world behind w. -/
def TestS (g : Nat) (cb : Array Value) (p : Sp → Bool) (w : World) : Prop :=
  ∀ (s : Sp) (W : World), Below w.heap.size w W → Calls Tryd.prog g (#[spV s] ++ cb) W (Gives (.bool (p s)) W)
/-- The function value (g, cb) tests a number by p, in every world behind w. -/
def TestI (g : Nat) (cb : Array Value) (p : Int → Bool) (w : World) : Prop :=
  ∀ (c : Int) (W : World), Below w.heap.size w W → Calls Tryd.prog g (#[.int .i64 c] ++ cb) W (Gives (.bool (p c)) W)

theorem TestS.below {g : Nat} {cb : Array Value} {p : Sp → Bool} {w w' : World} (h : TestS g cb p w) (hb : Below w.heap.size w w') : TestS g cb p w' :=
  fun s W hW => h s W (hb.trans (hW.mono hb.size))
theorem TestI.below {g : Nat} {cb : Array Value} {p : Int → Bool} {w w' : World} (h : TestI g cb p w) (hb : Below w.heap.size w w') : TestI g cb p w' :=
  fun s W hW => h s W (hb.trans (hW.mono hb.size))

theorem TestS.at_ {g : Nat} {cb : Array Value} {p : Sp → Bool} {w : World} (h : TestS g cb p w) (f t v : Int) (B : Bool) (hB : Hid (p (f, t, v) = B)) (W : World) (hW : Below w.heap.size w W) :
    Calls Tryd.prog g (#[.agg #[.int .i64 f, .int .i64 t, .int .i64 v]] ++ cb) W (Gives (.bool B) W) := by
  rw [← hB.out]; exact h (f, t, v) W hW
theorem TestI.at_ {g : Nat} {cb : Array Value} {p : Int → Bool} {w : World} (h : TestI g cb p w) (c : Int) (B : Bool) (hB : Hid (p c = B)) (W : World) (hW : Below w.heap.size w W) :
    Calls Tryd.prog g (#[.int .i64 c] ++ cb) W (Gives (.bool B) W) := by
  rw [← hB.out]; exact h c W hW

/-- What IndexFunc returns. -/
def IdxPost (b : Bool) (w : World) (e : Ending) (w' : World) : Prop :=
  ∃ i : Int, e = .returned (.int .i64 i) ∧ (b = true → 0 ≤ i) ∧ (b = false → i < 0) ∧ Below w.heap.size w w'

set_option maxHeartbeats 2000000 in
theorem idxS_any (p : Option Addr) (n cp : Nat) (l : List Sp) (g : Nat) (cb : Array Value) (q : Sp → Bool) (w : World) (hl : l.length = n) (hn : n ≤ 17592186043904) (hin : SpIn w p l) (hq : TestS g cb q w)
    (eg : ∀ args w, (callFunc g args).run Tryd.prog w = .ok (.enter g args) w) :
    Calls Tryd.prog 94 #[.slice p n cp, .func (.func g) #[] cb] w (IdxPost (l.any q) w) := by
  have HI := Lib.hid hin
  have HL := Lib.hid hl
  have HQ := Lib.hid hq
  clear hin hl hq
  go_enter Tryd.func94, Tryd.ntmps94
  go_wp2
  go_loopw [8] (fun i wr => ∃ k : Nat, k ≤ n ∧ i = .int .i64 k ∧ Hid ((l.take k).any q = false) ∧ Hid (Below w.heap.size w wr)) (fun i _ => n - (intOf i).toNat)
  case atStart => exact ⟨0, Nat.zero_le _, rfl, by simp [Hid], Below.refl _ _⟩
  case round =>
    obtain ⟨k, hk, rfl, hno, hb⟩ := hrel
    by_cases hlt : k < n
    · have hkl : k < l.length := by rw [HL.out]; exact hlt
      obtain ⟨b, off, rfl, hc1, hc2, hc3⟩ := (HI.out.below hb.out) k hkl
      have hsn := any_take_snoc q l k sp0 hkl
      rw [hno.out, Bool.false_or] at hsn
      obtain ⟨⟨f, t, v⟩, hs⟩ : ∃ s, l.getD k sp0 = s := ⟨_, rfl⟩
      rw [hs] at hc1 hc2 hc3 hsn
      have HSN := Lib.hid hsn
      clear hs hsn
      obtain ⟨B, hB⟩ : ∃ B, Hid (q (f, t, v) = B) := ⟨_, rfl⟩
      cases B with
      | true =>
        have HA : Hid (l.any q = true) := any_of_take q l (k + 1) (by rw [HSN.out, hB.out])
        go_wp2_with (go_at_fn g; refine (HQ.out.at_ f t v true hB _ hb.out).mono ?_; rintro e w2 ⟨rfl, hb2⟩; have HB2 := Lib.hid (hb.out.trans (hb2.mono hb.out.size)); clear hb2)
        go_ret
        exact ⟨k, rfl, fun _ => by omega, by rw [HA.out]; simp, HB2.out⟩
      | false =>
        have HN : Hid ((l.take (k + 1)).any q = false) := by unfold Hid; rw [HSN.out, hB.out]
        go_wp2_with (go_at_fn g; refine (HQ.out.at_ f t v false hB _ hb.out).mono ?_; rintro e w2 ⟨rfl, hb2⟩; have HB2 := Lib.hid (hb.out.trans (hb2.mono hb.out.size)); clear hb2)
        go_roundw
        case rel => exact ⟨k + 1, by omega, by go_num, HN, HB2⟩
        case measure => simp [intOf]; omega
    · obtain rfl : k = n := by omega
      have HA : Hid (l.any q = false) := by
        have := hno.out
        rwa [List.take_of_length_le (Nat.le_of_eq HL.out)] at this
      go_wp2
      go_ret
      exact ⟨-1, rfl, by rw [HA.out]; simp, fun _ => by omega, hb.out⟩

set_option maxHeartbeats 2000000 in
theorem idxI_any (p : Option Addr) (n cp : Nat) (l : List Int) (g : Nat) (cb : Array Value) (q : Int → Bool) (w : World) (hl : l.length = n) (hn : n ≤ 17592186043904) (hin : IntsIn w p l) (hq : TestI g cb q w)
    (eg : ∀ args w, (callFunc g args).run Tryd.prog w = .ok (.enter g args) w) :
    Calls Tryd.prog 98 #[.slice p n cp, .func (.func g) #[] cb] w (IdxPost (l.any q) w) := by
  have HI := Lib.hid hin
  have HL := Lib.hid hl
  have HQ := Lib.hid hq
  clear hin hl hq
  go_enter Tryd.func98, Tryd.ntmps98
  go_wp2
  go_loopw [8] (fun i wr => ∃ k : Nat, k ≤ n ∧ i = .int .i64 k ∧ Hid ((l.take k).any q = false) ∧ Hid (Below w.heap.size w wr)) (fun i _ => n - (intOf i).toNat)
  case atStart => exact ⟨0, Nat.zero_le _, rfl, by simp [Hid], Below.refl _ _⟩
  case round =>
    obtain ⟨k, hk, rfl, hno, hb⟩ := hrel
    by_cases hlt : k < n
    · have hkl : k < l.length := by rw [HL.out]; exact hlt
      obtain ⟨b, off, rfl, hc1⟩ := (HI.out.below hb.out) k hkl
      have hsn := any_take_snoc q l k 0 hkl
      rw [hno.out, Bool.false_or] at hsn
      obtain ⟨f, hs⟩ : ∃ s, l.getD k 0 = s := ⟨_, rfl⟩
      rw [hs] at hc1 hsn
      have HSN := Lib.hid hsn
      clear hs hsn
      obtain ⟨B, hB⟩ : ∃ B, Hid (q f = B) := ⟨_, rfl⟩
      cases B with
      | true =>
        have HA : Hid (l.any q = true) := any_of_take q l (k + 1) (by rw [HSN.out, hB.out])
        go_wp2_with (go_at_fn g; refine (HQ.out.at_ f true hB _ hb.out).mono ?_; rintro e w2 ⟨rfl, hb2⟩; have HB2 := Lib.hid (hb.out.trans (hb2.mono hb.out.size)); clear hb2)
        go_ret
        exact ⟨k, rfl, fun _ => by omega, by rw [HA.out]; simp, HB2.out⟩
      | false =>
        have HN : Hid ((l.take (k + 1)).any q = false) := by unfold Hid; rw [HSN.out, hB.out]
        go_wp2_with (go_at_fn g; refine (HQ.out.at_ f false hB _ hb.out).mono ?_; rintro e w2 ⟨rfl, hb2⟩; have HB2 := Lib.hid (hb.out.trans (hb2.mono hb.out.size)); clear hb2)
        go_roundw
        case rel => exact ⟨k + 1, by omega, by go_num, HN, HB2⟩
        case measure => simp [intOf]; omega
    · obtain rfl : k = n := by omega
      have HA : Hid (l.any q = false) := by
        have := hno.out
        rwa [List.take_of_length_le (Nat.le_of_eq HL.out)] at this
      go_wp2
      go_ret
      exact ⟨-1, rfl, by rw [HA.out]; simp, fun _ => by omega, hb.out⟩

theorem conS_any (v0 : Value) (l : List Sp) (g : Nat) (cb : Array Value) (q : Sp → Bool) (B : Bool) (w : World) (hv : SpV w v0 l) (hq : TestS g cb q w) (eg : ∀ args w, (callFunc g args).run Tryd.prog w = .ok (.enter g args) w) (hB : Hid (l.any q = B)) :
    Calls Tryd.prog 53 #[v0, .func (.func g) #[] cb] w (Gives (.bool B) w) := by
  obtain ⟨p, cp, rfl, hin, hn⟩ := hv
  have HI := Lib.hid hin
  have HQ := Lib.hid hq
  have EG := Lib.hid eg
  clear hin hq eg
  go_enter Tryd.func53, Tryd.ntmps53
  go_wp2_with fail
  refine (idxS_any p l.length cp l g cb q _ rfl hn HI.out HQ.out EG.out).mono ?_
  rw [hB.out]
  rintro e w1 ⟨i, rfl, h1, h2, hb⟩
  have HB := Lib.hid hb
  clear hb
  cases B with
  | true =>
    have hd : decide (0 ≤ i) = true := decide_eq_true (h1 rfl)
    clear h1 h2
    go_wp2
    go_ret
    exact ⟨by rw [← hd]; rfl, HB.out⟩
  | false =>
    have hd : decide (0 ≤ i) = false := decide_eq_false (by have := h2 rfl; omega)
    clear h1 h2
    go_wp2
    go_ret
    exact ⟨by rw [← hd]; rfl, HB.out⟩

theorem conI_any (v0 : Value) (l : List Int) (g : Nat) (cb : Array Value) (q : Int → Bool) (B : Bool) (w : World) (hv : InV w v0 l) (hq : TestI g cb q w) (eg : ∀ args w, (callFunc g args).run Tryd.prog w = .ok (.enter g args) w) (hB : Hid (l.any q = B)) :
    Calls Tryd.prog 66 #[v0, .func (.func g) #[] cb] w (Gives (.bool B) w) := by
  obtain ⟨p, cp, rfl, hin, hn⟩ := hv
  have HI := Lib.hid hin
  have HQ := Lib.hid hq
  have EG := Lib.hid eg
  clear hin hq eg
  go_enter Tryd.func66, Tryd.ntmps66
  go_wp2_with fail
  refine (idxI_any p l.length cp l g cb q _ rfl hn HI.out HQ.out EG.out).mono ?_
  rw [hB.out]
  rintro e w1 ⟨i, rfl, h1, h2, hb⟩
  have HB := Lib.hid hb
  clear hb
  cases B with
  | true =>
    have hd : decide (0 ≤ i) = true := decide_eq_true (h1 rfl)
    clear h1 h2
    go_wp2
    go_ret
    exact ⟨by rw [← hd]; rfl, HB.out⟩
  | false =>
    have hd : decide (0 ≤ i) = false := decide_eq_false (by have := h2 rfl; omega)
    clear h1 h2
    go_wp2
    go_ret
    exact ⟨by rw [← hd]; rfl, HB.out⟩

end Go.Proofs.YtmkaclfjekjabaaDoor
