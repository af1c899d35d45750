/-
  table: ascending numbers; keys.
-/
import Derived.Test.YtmkaclfjekjabaaDoorTabF
import Derived.Test.YtmkaclfjekjabaaDoorTabApp
namespace Go.Proofs.YtmkaclfjekjabaaDoor
open Go.RowKit

theorem endI_take (lo : Int) (l : List Int) (j : Nat) (h : j < l.length) : endI lo (l.take (j + 1)) = l.getD j 0 + 1 := by
  rw [take_snoc_int l j h, endI_snoc]

set_option maxRecDepth 100000 in
set_option maxHeartbeats 2000000 in
theorem asc_any (p : Option Addr) (n cp : Nat) (l : List Int) (lo hi : Int) (w : World) (hl : l.length = n) (hn : n ≤ 17592186043904) (hin : IntsIn w p l) :
    Calls Tryd.prog 63 #[.slice p n cp, .int .i64 lo, .int .i64 hi] w fun e w' => e = .returned (.bool (ascI lo hi l)) ∧ w = w' := by
  have HI := Lib.hid hin
  have HL := Lib.hid hl
  clear hin hl
  go_enter Tryd.func63, Tryd.ntmps63
  go_wp2
  go_loop [11] (fun i => ∃ k : Nat, k ≤ n ∧ i = .int .i64 k ∧ Hid (ascI lo hi (l.take k) = true)) (fun i => n - (intOf i).toNat)
  case atStart => exact ⟨0, Nat.zero_le _, rfl, rfl⟩
  case round =>
    obtain ⟨k, hk, rfl, ha⟩ := hrel
    by_cases hlt : k < n
    · have hkl : k < l.length := by rw [HL.out]; exact hlt
      obtain ⟨b, off, rfl, hc⟩ := HI.out k hkl
      obtain ⟨v, hv⟩ : ∃ v, l.getD k 0 = v := ⟨_, rfl⟩
      rw [hv] at hc
      have hsn : ascI lo hi (l.take (k + 1)) = true ↔ endI lo (l.take k) ≤ v ∧ v ≤ hi := by
        rw [take_snoc_int l k hkl, ascI_snoc, hv]
        exact ⟨fun h => h.2, fun h => ⟨ha.out, h⟩⟩
      have hno : ¬ (endI lo (l.take k) ≤ v ∧ v ≤ hi) → ascI lo hi l = false := fun h => ascI_prefix (k + 1) (by rw [← Bool.not_eq_true, hsn]; exact h)
      have hge := endI_ge ha.out
      have HSN := Lib.hid hsn
      have HNO := Lib.hid hno
      have HGE := Lib.hid hge
      clear hv hsn hno hge
      by_cases h1 : v < lo
      · have HF : Hid (ascI lo hi l = false) := HNO.out (by have := HGE.out; omega)
        go_wp2
        go_ret
        rw [HF.out]
        exact ⟨rfl, rfl⟩
      · have d1 : decide (v < lo) = false := decide_eq_false h1
        by_cases h2 : hi < v
        · have HF : Hid (ascI lo hi l = false) := HNO.out (by omega)
          clear h1
          go_wp2
          go_ret
          rw [HF.out]
          exact ⟨rfl, rfl⟩
        · have d2 : decide (hi < v) = false := decide_eq_false h2
          cases k with
          | zero =>
            have HT : Hid (ascI lo hi (l.take (0 + 1)) = true) := HSN.out.2 ⟨by simp [endI]; omega, by omega⟩
            clear h1 h2
            simp only [Nat.add_zero] at hc
            go_wp2
            go_round
            case rel => exact ⟨0 + 1, by omega, by go_num, HT⟩
            case measure => simp [intOf]; omega
          | succ j =>
            have hj : j < l.length := by omega
            obtain ⟨b', off', e', hq⟩ := HI.out j hj
            injection e' with e'
            injection e' with e1 e2
            subst e1; subst e2
            have HE := Lib.hid (endI_take lo l j hj)
            obtain ⟨pv, hp⟩ : ∃ s, l.getD j 0 = s := ⟨_, rfl⟩
            rw [hp] at hq HE
            have hk0 : (0 : Int) < (j : Int) + 1 := by omega
            have hj0 : (0 : Int) ≤ (j : Int) := by omega
            have hj1 : (j : Int) < (n : Int) := by omega
            have hx1 : IntKind.i64.wrap ((j : Int) + 1 - 1) = j := by rw [IntWalk.i64_in _ (by omega)]; omega
            have hx2 : IntKind.i64.wrap (j : Int) = j := IntWalk.i64_in _ (by omega)
            clear hp
            by_cases h3 : v ≤ pv
            · have HF : Hid (ascI lo hi l = false) := HNO.out (by rw [HE.out]; omega)
              clear h1 h2
              go_wp2
              go_ret
              rw [HF.out]
              exact ⟨rfl, rfl⟩
            · have d3 : decide (v ≤ pv) = false := decide_eq_false h3
              have HT : Hid (ascI lo hi (l.take (j + 1 + 1)) = true) := HSN.out.2 ⟨by rw [HE.out]; omega, by omega⟩
              clear h1 h2 h3
              go_wp2
              go_round
              case rel => exact ⟨j + 1 + 1, by omega, by go_num, HT⟩
              case measure => simp [intOf]; omega
    · obtain rfl : k = n := by omega
      have HF : Hid (ascI lo hi l = true) := by
        have := ha.out
        rwa [List.take_of_length_le (Nat.le_of_eq HL.out)] at this
      go_wp2
      go_ret
      rw [HF.out]
      exact ⟨rfl, rfl⟩

theorem asc_at (v0 : Value) (l : List Int) (lo hi : Int) (B : Bool) (w : World) (hv : InV w v0 l) (hB : Hid (ascI lo hi l = B)) :
    Calls Tryd.prog 63 #[v0, .int .i64 lo, .int .i64 hi] w fun e w' => e = .returned (.bool B) ∧ w = w' := by
  obtain ⟨p, cp, rfl, hin, hn⟩ := hv
  rw [← hB.out]
  exact asc_any p l.length cp l lo hi w rfl hn hin

theorem not_any {l : List Int} {q : Int → Bool} {B : Bool} (h : l.any q = B) : (l.all fun c => !q c) = !B := by
  rw [← h, Bool.eq_iff_iff]; simp

/-- areKeys. -/
theorem areKeys_any (v0 : Value) (l : List Int) (g : Nat) (q : Int → Bool) (w : World) (hv : InV w v0 l) (hq : TestI g #[] q w) (eg : ∀ args w, (callFunc g args).run Tryd.prog w = .ok (.enter g args) w) :
    Calls Tryd.prog 56 #[v0, .func (.func g) #[] #[]] w (Gives (.bool (ascI 0 1114111 l && l.all fun c => !q c)) w) := by
  have HV := Lib.hid hv
  have HQ := Lib.hid hq
  have EG := Lib.hid eg
  clear hv hq eg
  cases ha : ascI 0 1114111 l with
  | false =>
    have HA := Lib.hid ha
    clear ha
    go_enter Tryd.func56, Tryd.ntmps56
    go_wp2_with fail
    refine (asc_at v0 l 0 1114111 false _ HV.out HA).mono ?_
    rintro e w1 ⟨rfl, rfl⟩
    go_wp2
    go_ret
    exact ⟨rfl, Below.refl _ _⟩
  | true =>
    have HA := Lib.hid ha
    clear ha
    obtain ⟨B, hB⟩ : ∃ B, Hid (l.any q = B) := ⟨_, rfl⟩
    have HN := Lib.hid (not_any hB.out)
    rw [Bool.true_and]
    go_enter Tryd.func56, Tryd.ntmps56
    go_wp2_with fail
    refine (asc_at v0 l 0 1114111 true _ HV.out HA).mono ?_
    rintro e w1 ⟨rfl, rfl⟩
    go_wp2_with fail
    refine (conI_any v0 l g #[] q B _ HV.out HQ.out EG.out hB).mono ?_
    rintro e w1 ⟨rfl, hb⟩
    have HB := Lib.hid hb
    clear hb
    go_wp2
    go_ret
    exact ⟨by rw [HN.out]; rfl, HB.out⟩

theorem areKeys_at (v0 : Value) (l : List Int) (g : Nat) (q : Int → Bool) (B : Bool) (w : World) (hv : InV w v0 l) (hq : TestI g #[] q w) (eg : ∀ args w, (callFunc g args).run Tryd.prog w = .ok (.enter g args) w) (hB : Hid ((ascI 0 1114111 l && l.all fun c => !q c) = B)) :
    Calls Tryd.prog 56 #[v0, .func (.func g) #[] #[]] w (Gives (.bool B) w) := hB.out ▸ areKeys_any v0 l g q w hv hq eg

/-- A new slice of numbers. -/
def NewI (l : List Int) (w : World) (e : Ending) (w' : World) : Prop := ∃ v, e = .returned v ∧ Ints w' w.heap.size v l ∧ Below w.heap.size w w'

theorem Ints.inV {w : World} {B : Nat} {v : Value} {l : List Int} (h : Ints w B v l) (hl : l.length ≤ 17592186043904) : InV w v l := by
  obtain ⟨p, c, rfl, hi⟩ := h.inn
  exact ⟨p, c, rfl, hi, hl⟩

/-- The block that make lays for c numbers. -/
def madeI (c : Nat) : Obj := .cells (madeCells (Value.cells (.int .i64 0)) (c * 1)) 3

theorem run_make_ints0 (c : Nat) (hc : c ≤ 4194304) (w : World) :
    (Instr.makeSlice 24 (.int .i64 0) (.int .i64 (c : Int))).run Tryd.prog w = .ok (.slice (some ⟨w.heap.size, 0, none⟩) 0 c) (w.alloc (madeI c)) := by
  obtain ⟨i0, hi, hz0, hz1, hz2⟩ := info_parts Tryd.info3
  have h := run_make_rowN (P := Tryd.prog) 24 3 i0 _ Tryd.underlying24 hi hz0 .i64 .i64 0 c (Nat.zero_le _) (by rw [hz2]; omega) (by omega) w
  rw [hz1] at h
  exact h

theorem Ints.made (w : World) (B c : Nat) (hB : B ≤ w.heap.size) (hc : c ≤ 4194304) : Ints (w.alloc (madeI c)) B (.slice (some ⟨w.heap.size, 0, none⟩) 0 c) [] := by
  unfold Ints madeI
  exact World.ownsRow_made w _ c hB (by unfold maxLen; omega) (size_madeCells _ _)

set_option maxHeartbeats 2000000 in
theorem froms_any (v0 : Value) (l : List Mp) (w : World) (hv : MpV w v0 l) (hs : l.length ≤ 256) :
    Calls Tryd.prog 57 #[v0] w (NewI (froms l) w) := by
  obtain ⟨p, cp, rfl, hin, hn⟩ := hv
  obtain ⟨n, hl⟩ : ∃ n, l.length = n := ⟨_, rfl⟩
  rw [hl] at hs hn ⊢
  have hmk := run_make_ints0 n (by omega)
  have HI := Lib.hid hin
  have HL := Lib.hid hl
  clear hin hl
  go_enter Tryd.func57, Tryd.ntmps57
  go_wp2
  go_loopw [3, 11] (fun v i wr => ∃ k : Nat, k ≤ n ∧ i = .int .i64 k ∧ Hid (Ints wr w.heap.size v (froms (l.take k))) ∧ Hid (Below w.heap.size w wr)) (fun _ i _ => n - (intOf i).toNat)
  case atStart => exact ⟨0, Nat.zero_le _, rfl, Ints.made w _ n (Nat.le_refl _) (by omega), (Below.refl _ _).alloc (Nat.le_refl _) _⟩
  case round =>
    obtain ⟨k, hk, rfl, ho, hb⟩ := hrel
    by_cases hlt : k < n
    · have hkl : k < l.length := by rw [HL.out]; exact hlt
      obtain ⟨b, off, v, rfl, hc1, hc2, q, cq, rfl, _, _⟩ := (HI.out.below hb.out) k hkl
      obtain ⟨m, hm⟩ : ∃ m, (l.getD k mp0).2.length = m := ⟨_, rfl⟩
      rw [hm] at hc2
      clear hm
      have hsn : froms (l.take (k + 1)) = froms (l.take k) ++ [(l.getD k mp0).1] := by rw [take_snoc_mp l k hkl]; simp [froms]
      obtain ⟨f, hf⟩ : ∃ f, (l.getD k mp0).1 = f := ⟨_, rfl⟩
      rw [hf] at hc1 hsn
      have HSN := Lib.hid hsn
      have HLK : Hid ((froms (l.take k)).length ≤ 256) := by unfold Hid; rw [froms_length]; exact Nat.le_trans (List.length_take_le _ _) (by omega)
      clear hsn hf
      have hob := Ints.alloc ho.out (.cells #[.int .i64 f, .slice q m cq] 39)
      have hbb := hb.out.alloc hb.out.size (.cells #[.int .i64 f, .slice q m cq] 39)
      have hbz : w.heap.size ≤ (wr.alloc (.cells #[.int .i64 f, .slice q m cq] 39)).heap.size := hbb.size
      have HOB := Lib.hid hob
      have HBB := Lib.hid hbb
      clear hob hbb
      go_wp2_with (at_builtin; (refine wpList_append_int (.tmp 15) (.tmp 18) rfl rfl w.heap.size u3 (froms (l.take k)) rfl HOB.out f 1 _ rfl (by simp) (by have := HLK.out; omega) hbz ?_); intro v1 w1 ho1 hg1)
      have HO1 := Lib.hid ho1
      have HB1 := Lib.hid (below_appI HBB.out HOB.out (Nat.le_refl _) hg1)
      clear ho1 hg1
      go_wp2
      go_roundw
      case rel => exact ⟨k + 1, by omega, by go_num, by rw [HSN.out]; exact HO1, HB1⟩
      case measure => simp [intOf]; omega
    · obtain rfl : k = n := by omega
      have HJ : Hid (l.take k = l) := by unfold Hid; rw [List.take_of_length_le (Nat.le_of_eq HL.out)]
      go_wp2
      go_ret
      exact ⟨_, rfl, by rw [HJ.out] at ho; exact ho.out, hb.out⟩

end Go.Proofs.YtmkaclfjekjabaaDoor
