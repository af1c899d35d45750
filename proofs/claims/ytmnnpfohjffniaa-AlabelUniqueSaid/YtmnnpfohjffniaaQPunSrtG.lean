/-
  The library's stable sort: blocks of twenty, merges of twice as many; SortStableFunc.
-/
import Derived.Test.YtmnnpfohjffniaaQPunSrtF
set_option linter.unusedSimpArgs false
set_option linter.unusedVariables false
namespace Go.Proofs.Ytmnnpfohjffniaa
open Go.RowKit Go.Sort
set_option linter.unusedVariables false

/-- All ahead of t are of smaller indices than all from t on. -/
def Cut (t N : Nat) (d : Array Int) : Prop := ∀ i j, i < t → t ≤ j → j < N → d[i]! < d[j]!
theorem Cut.perm {t N a b : Nat} {d d' : Array Int} (h : Cut t N d) (hp : PermIn a b d d') (hN : d.size = N) (hb : b ≤ N) (ht : t ≤ a ∨ b ≤ t) : Cut t N d' := by
  intro i j h1 h2 h3
  rcases ht with ht | ht
  · rw [hp.2.1 i (.inl (by omega))]
    by_cases hj : a ≤ j ∧ j < b
    · exact permIn_all d d' a b (fun y => d[i]! < y) (by omega) hp (fun k k1 k2 => h i k h1 (by omega) (by omega)) j hj.1 hj.2
    · rw [hp.2.1 j (by omega)]; exact h i j h1 h2 h3
  · rw [hp.2.1 j (.inr (by omega))]
    by_cases hi : a ≤ i ∧ i < b
    · exact permIn_all d d' a b (fun y => y < d[j]!) (by omega) hp (fun k k1 k2 => h k j (by omega) h2 h3) i hi.1 hi.2
    · rw [hp.2.1 i (by omega)]; exact h i j h1 h2 h3

/-- The state of a pass over blocks of z places: the blocks below c are sorted, what lies from a = c * z on is as in d. -/
structure Pass (l : List Int) (N z c a : Nat) (d dk : Array Int) : Prop where
  at_ : a = c * z
  size : dk.size = N
  sorted : ∀ k, k < c → SortedIn (ltT l) (k * z) (k * z + z) dk
  same : ∀ i, a ≤ i → dk[i]! = d[i]!
  cut : ∀ k, Cut (k * z) N dk
  perm : PermIn 0 N d dk

theorem mul_apart {z k c : Nat} : k * z ≤ c * z ∨ c * z + z ≤ k * z := by
  rcases Nat.lt_or_ge c k with h | h
  · right
    have := Nat.mul_le_mul_right z (show c + 1 ≤ k from h)
    rw [Nat.succ_mul] at this
    exact this
  · exact .inl (Nat.mul_le_mul_right z h)

/-- One block more. -/
theorem Pass.step {l : List Int} {N z c a : Nat} {d dk d' : Array Int} (h : Pass l N z c a d dk) (hd : d.size = N) (hb : a + z ≤ N) (hp : PermIn a (a + z) dk d') (hs : SortedIn (ltT l) a (a + z) d') : Pass l N z (c + 1) (a + z) d d' where
  at_ := by rw [Nat.succ_mul, ← h.at_]
  size := by rw [hp.1]; exact h.size
  sorted k hk := by
    by_cases e : k = c
    · subst e; rw [← h.at_]; exact hs
    · have h1 := h.sorted k (by omega)
      have h2 : k * z + z ≤ a := by
        rw [h.at_]
        have := Nat.mul_le_mul_right z (show k + 1 ≤ c by omega)
        rw [Nat.succ_mul] at this
        exact this
      exact SortedIn.congr h1 (fun i _ hi => hp.2.1 i (.inl (by omega)))
  same i hi := by rw [hp.2.1 i (.inr hi)]; exact h.same i (by omega)
  cut k := (h.cut k).perm hp h.size hb (by rw [h.at_]; exact mul_apart)
  perm := permIn_trans _ _ _ _ _ h.perm (permIn_mono dk d' a (a + z) 0 N (Nat.zero_le _) hb (by rw [h.size]; exact Nat.le_refl _) hp)

/-- The row is sorted in blocks of z. -/
structure PBlk (l : List Int) (N z : Nat) (d0 d : Array Int) : Prop where
  size : d.size = N
  sorted : ∀ k, SortedIn (ltT l) (k * z) (min N (k * z + z)) d
  cut : ∀ k, Cut (k * z) N d
  perm : PermIn 0 N d0 d

/-- The last block, and a pass is done. -/
theorem Pass.done {l : List Int} {N z c a : Nat} {d dk d' : Array Int} (h : Pass l N z c a d dk) (hd : d.size = N) (hz : N < a + z) (hp : PermIn a N dk d') (hs : SortedIn (ltT l) a N d') : PBlk l N z d d' where
  size := by rw [hp.1]; exact h.size
  sorted k := by
    rcases Nat.lt_trichotomy k c with e | e | e
    · have h1 := h.sorted k e
      have h2 : k * z + z ≤ a := by
        rw [h.at_]
        have := Nat.mul_le_mul_right z (show k + 1 ≤ c from e)
        rw [Nat.succ_mul] at this
        exact this
      exact SortedIn.mono (SortedIn.congr h1 (fun i _ hi => hp.2.1 i (.inl (by omega)))) (Nat.le_refl _) (by omega)
    · subst e; rw [← h.at_]; exact SortedIn.mono hs (Nat.le_refl _) (by omega)
    · have h2 : a + z ≤ k * z := by
        rw [h.at_]
        have := Nat.mul_le_mul_right z (show c + 1 ≤ k from e)
        rw [Nat.succ_mul] at this
        exact this
      intro i j h3 h4 h5; omega
  cut k := (h.cut k).perm hp h.size (Nat.le_refl N) (by
    rcases (mul_apart : k * z ≤ c * z ∨ c * z + z ≤ k * z) with e | e
    · left; rw [h.at_]; exact e
    · right; rw [← h.at_] at e; omega)
  perm := permIn_trans _ _ _ _ _ h.perm (permIn_mono dk d' a N 0 N (Nat.zero_le _) (Nat.le_refl N) (by rw [h.size]; exact Nat.le_refl _) hp)

/-- A pass over blocks of 2z begins with a row that is sorted in blocks of z. -/
theorem PBlk.pass {l : List Int} {N z : Nat} {d0 d : Array Int} (h : PBlk l N z d0 d) : Pass l N (2 * z) 0 0 d d where
  at_ := by omega
  size := h.size
  sorted k hk := by omega
  same i _ := rfl
  cut k := by have := h.cut (k * 2); rwa [Nat.mul_assoc] at this
  perm := permIn_refl d 0 N

/-- Two blocks of z that are merged next. -/
theorem Pass.merge {l : List Int} {N z c a b : Nat} {d0 d dk : Array Int} (hb : PBlk l N z d0 d) (h : Pass l N (2 * z) c a d dk) (h1 : a + z ≤ b) (h2 : b ≤ N) (h3 : b ≤ a + 2 * z) : Mrg l a (a + z) b dk where
  am := by omega
  mb := h1
  size := by rw [h.size]; exact h2
  left := by
    have e : a = c * 2 * z := by rw [Nat.mul_assoc]; exact h.at_
    have := hb.sorted (c * 2)
    rw [← e] at this
    exact SortedIn.congr (SortedIn.mono this (Nat.le_refl _) (by omega)) (fun i hi _ => h.same i hi)
  right := by
    have e : a + z = (c * 2 + 1) * z := by rw [Nat.succ_mul, Nat.mul_assoc]; rw [← h.at_]
    have := hb.sorted (c * 2 + 1)
    rw [← e] at this
    exact SortedIn.congr (SortedIn.mono this (Nat.le_refl _) (by omega)) (fun i hi _ => h.same i (by omega))
  cross i j i1 i2 i3 i4 := by
    have e : a + z = (c * 2 + 1) * z := by rw [Nat.succ_mul, Nat.mul_assoc]; rw [← h.at_]
    have := hb.cut (c * 2 + 1) i j (by rw [← e]; exact i2) (by rw [← e]; exact i3) (by omega)
    rw [h.same i i1, h.same j (by omega)]
    exact this

/-- What is left of a pass is one block of z, or none: it is sorted as it stands. -/
theorem Pass.rest {l : List Int} {N z c a : Nat} {d0 d dk : Array Int} (hb : PBlk l N z d0 d) (h : Pass l N (2 * z) c a d dk) (h1 : N ≤ a + z) : SortedIn (ltT l) a N dk := by
  have e : a = c * 2 * z := by rw [Nat.mul_assoc]; exact h.at_
  have := hb.sorted (c * 2)
  rw [← e] at this
  exact SortedIn.congr (SortedIn.mono this (Nat.le_refl _) (by omega)) (fun i hi _ => h.same i hi)

theorem PBlk.trans {l : List Int} {N z : Nat} {d0 d d' : Array Int} (h : PBlk l N z d d') (hp : PermIn 0 N d0 d) : PBlk l N z d0 d' := ⟨h.size, h.sorted, h.cut, permIn_trans _ _ _ _ _ hp h.perm⟩

set_option maxRecDepth 100000 in
set_option maxHeartbeats 8000000 in
theorem stable_at (l : List Int) (g cap bx N : Nat) (d : Array Int) (w0 w : World) (hc : CmpOk l bx g w0) (hg0 : w0.grownBy w (some g)) (hv : Val l d) (hs : SRow w g cap d) (hN : Hid (d.size = N)) (hl : N ≤ 1099511627776) (hd : ∀ i j, i < j → j < N → d[i]! < d[j]!) :
    Calls Try.prog 55 #[.slice (some ⟨g, 0, none⟩) N cap, .int .i64 N, .func (.func 45) #[] #[.pointer (some ⟨bx, 0, none⟩)]] w (SrtPost g cap d (fun d' => PermIn 0 N d d' ∧ SortedIn (ltT l) 0 N d') w) := by
  have HC := Lib.hid hc
  have HG0 := Lib.hid hg0
  have HV := Lib.hid hv
  have HS := Lib.hid hs
  have HD := Lib.hid hd
  have HSYM := Lib.hid (sym_any l g cap bx N w0 hc hl N)
  clear hc hg0 hv hs hd
  go_enter Try.func55, Try.ntmps55
  go_wp2
  go_loopw [7, 8] (fun u v wr => ∃ (c a : Nat) (dk : Array Int), u = .int .i64 a ∧ v = .int .i64 ((a : Int) + 20) ∧ a ≤ N ∧ Hid (Pass l N 20 c a d dk) ∧ Hid (SRow wr g cap dk) ∧ Hid (w.grownBy wr (some g))) (fun u _ _ => N - (intOf u).toNat)
  case atStart => exact ⟨0, 0, d, rfl, rfl, Nat.zero_le _, ⟨by omega, hN.out, fun k hk => by omega, fun i _ => rfl, fun k i j h1 h2 h3 => HD.out i j (by omega) h3, permIn_refl d 0 N⟩, HS, grown_refl _ _⟩
  case round =>
    obtain ⟨c, a, dk, rfl, rfl, haN, hps, hsr, hg⟩ := hrel
    have HVk : Hid (Val l dk) := HV.out.perm hps.out.perm (by rw [hN.out]; exact Nat.le_refl N)
    have HNk : Hid (dk.size = N) := hps.out.size
    have HDk : Hid (∀ i j, a ≤ i → i < j → j < N → dk[i]! < dk[j]!) := fun i j h1 h2 h3 => by rw [hps.out.same i h1, hps.out.same j (by omega)]; exact HD.out i j h2 h3
    by_cases hlt : a + 20 ≤ N
    · obtain ⟨b, hb⟩ : ∃ b, a + 20 = b := ⟨_, rfl⟩
      have hbI : (a : Int) + 20 = (b : Int) := by omega
      have hbN : b ≤ N := by omega
      have HB := Lib.hid hb
      clear hb hlt
      go_wp2_with fail
      refine (ins_n N l g cap bx a b dk w0 _ HNk HC.out (grownBy_trans HG0.out hg.out) HVk.out hsr.out hl (by have := HB.out; omega) hbN (fun i j h1 h2 h3 => HDk.out i j h1 h2 (by omega))).mono ?_
      rintro ex w1 ⟨rfl, d1, hs1, hz1, ⟨hp1, ho1⟩, hg1⟩
      have HS1 := Lib.hid hs1
      have HP1 : Hid (Pass l N 20 (c + 1) b d d1) := by
        unfold Hid; rw [← HB.out]; rw [← HB.out] at hp1 ho1
        exact hps.out.step hN.out (by rw [HB.out]; exact hbN) hp1 ho1
      have HG1 := Lib.hid (grownBy_trans hg.out hg1)
      have hab : a < b := by have := HB.out; omega
      clear hs1 hz1 hp1 ho1 hg1
      go_wp2
      go_roundw
      case rel => exact ⟨c + 1, b, d1, rfl, rfl, hbN, HP1, HS1, HG1⟩
      case measure => simp [intOf]; omega
    · have hn : ¬ ((a : Int) + 20 ≤ (N : Int)) := by omega
      go_wp2_with fail
      refine (ins_n N l g cap bx a N dk w0 _ HNk HC.out (grownBy_trans HG0.out hg.out) HVk.out hsr.out hl haN (Nat.le_refl N) (fun i j h1 h2 h3 => HDk.out i j h1 h2 h3)).mono ?_
      rintro ex w1 ⟨rfl, d1, hs1, hz1, ⟨hp1, ho1⟩, hg1⟩
      have HS1 := Lib.hid hs1
      have HB1 : Hid (PBlk l N 20 d d1) := hps.out.done hN.out (by omega) hp1 ho1
      have HG1 := Lib.hid (grownBy_trans hg.out hg1)
      clear hs1 hz1 hp1 ho1 hg1 hps hsr hg hn hlt HDk HVk HNk
      go_wp2
      go_loopw [6] (fun u wr => ∃ (z : Nat) (d2 : Array Int), u = .int .i64 z ∧ 20 ≤ z ∧ z ≤ 2 * N + 20 ∧ Hid (PBlk l N z d d2) ∧ Hid (SRow wr g cap d2) ∧ Hid (w.grownBy wr (some g))) (fun u _ => N - (intOf u).toNat)
      case atStart => exact ⟨20, d1, rfl, Nat.le_refl _, by omega, HB1, HS1, HG1⟩
      case round =>
        obtain ⟨z, d2, rfl, hz1, hz2, hblk, hsr, hg⟩ := hrel
        by_cases hzN : z < N
        · obtain ⟨y, hy⟩ : ∃ y, 2 * z = y := ⟨_, rfl⟩
          have hyI : 2 * (z : Int) = (y : Int) := by omega
          have hyI2 : (z : Int) * 2 = (y : Int) := by omega
          have HY := Lib.hid hy
          have hzy : z < y := by omega
          have hyN : y ≤ 2 * N + 20 := by omega
          have HP0 : Hid (Pass l N y 0 0 d2 d2) := by unfold Hid; rw [← hy]; exact hblk.out.pass
          have HN2 : Hid (d2.size = N) := hblk.out.size
          clear hy
          have hsr0 := hsr
          have hg0 := hg
          go_wp2
          go_loopw [7, 8] (fun u v wr => ∃ (c a : Nat) (dk : Array Int), u = .int .i64 a ∧ v = .int .i64 ((a : Int) + (y : Int)) ∧ a ≤ N ∧ Hid (Pass l N y c a d2 dk) ∧ Hid (SRow wr g cap dk) ∧ Hid (w.grownBy wr (some g))) (fun u _ _ => N - (intOf u).toNat)
          case atStart => exact ⟨0, 0, d2, rfl, by simp, Nat.zero_le _, HP0, hsr0, hg0⟩
          case round =>
            obtain ⟨c, a, dk, rfl, rfl, haN, hps, hsk, hgk⟩ := hrel
            have HPS2 : Hid (Pass l N (2 * z) c a d2 dk) := by unfold Hid; rw [HY.out]; exact hps.out
            have HVk : Hid (Val l dk) := (HV.out.perm hblk.out.perm (by rw [hN.out]; exact Nat.le_refl N)).perm hps.out.perm (by rw [HN2.out]; exact Nat.le_refl N)
            have HNk : Hid (dk.size = N) := hps.out.size
            obtain ⟨m, hm⟩ : ∃ m, a + z = m := ⟨_, rfl⟩
            have hmI : (a : Int) + (z : Int) = (m : Int) := by omega
            have HM := Lib.hid hm
            clear hm
            by_cases hlt : a + y ≤ N
            · obtain ⟨b, hb⟩ : ∃ b, a + y = b := ⟨_, rfl⟩
              have hbI : (a : Int) + (y : Int) = (b : Int) := by omega
              have hbN : b ≤ N := by omega
              have HB := Lib.hid hb
              clear hb hlt
              go_wp2_with fail
              refine (HSYM.out a m b dk _ (by omega) HNk (grownBy_trans HG0.out hgk.out) HVk.out hsk.out (by have := HB.out; have := HY.out; rw [← HM.out]; exact HPS2.out.merge hblk.out (by omega) hbN (by omega)) (by have := HM.out; omega) (by have := HM.out; have := HB.out; have := HY.out; omega)).mono ?_
              rintro ex w2 ⟨rfl, d3, hs3, hz3, ⟨hp3, ho3⟩, hg3⟩
              have HS3 := Lib.hid hs3
              have HP3 : Hid (Pass l N y (c + 1) b d2 d3) := by
                unfold Hid; rw [← HB.out]; rw [← HB.out] at hp3 ho3
                exact hps.out.step HN2.out (by rw [HB.out]; exact hbN) hp3 ho3
              have HG3 := Lib.hid (grownBy_trans hgk.out hg3)
              have hab : a < b := by have := HB.out; omega
              clear hs3 hz3 hp3 ho3 hg3
              go_wp2
              go_roundw
              case rel => exact ⟨c + 1, b, d3, rfl, rfl, hbN, HP3, HS3, HG3⟩
              case measure => simp [intOf]; omega
            · have hn : ¬ ((a : Int) + (y : Int) ≤ (N : Int)) := by omega
              by_cases hmN : m < N
              · go_wp2_with fail
                refine (HSYM.out a m N dk _ (by omega) HNk (grownBy_trans HG0.out hgk.out) HVk.out hsk.out (by have := HY.out; have := HM.out; rw [← HM.out]; exact HPS2.out.merge hblk.out (by omega) (Nat.le_refl N) (by omega)) (by have := HM.out; omega) hmN).mono ?_
                rintro ex w2 ⟨rfl, d3, hs3, hz3, ⟨hp3, ho3⟩, hg3⟩
                have HS3 := Lib.hid hs3
                have HB3 : Hid (PBlk l N y d d3) := (hps.out.done HN2.out (by omega) hp3 ho3).trans hblk.out.perm
                have HG3 := Lib.hid (grownBy_trans hgk.out hg3)
                clear hs3 hz3 hp3 ho3 hg3
                go_wp2
                go_roundw
                case rel => exact ⟨y, d3, rfl, by omega, by omega, HB3, HS3, HG3⟩
                case measure => simp [intOf]; omega
              · have HB3 : Hid (PBlk l N y d dk) := (hps.out.done HN2.out (by omega) (permIn_refl dk a N) (HPS2.out.rest hblk.out (by have := HM.out; omega))).trans hblk.out.perm
                go_wp2
                go_roundw
                case rel => exact ⟨y, dk, rfl, by omega, by omega, HB3, hsk.out, hgk.out⟩
                case measure => simp [intOf]; omega
        · have HSO : Hid (SortedIn (ltT l) 0 N d2) := by
            have := hblk.out.sorted 0
            rw [Nat.zero_mul, Nat.zero_add, Nat.min_eq_left (by omega)] at this
            exact this
          go_wp2
          go_end0
          exact ⟨rfl, d2, hsr.out, by rw [hblk.out.size, hN.out], ⟨hblk.out.perm, HSO.out⟩, hg.out⟩

set_option maxHeartbeats 1000000 in
theorem sort_at (l : List Int) (g cap bx N : Nat) (d : Array Int) (w0 w : World) (hc : CmpOk l bx g w0) (hg0 : w0.grownBy w (some g)) (hv : Val l d) (hs : SRow w g cap d) (hN : Hid (d.size = N)) (hl : N ≤ 1099511627776) (hd : ∀ i j, i < j → j < N → d[i]! < d[j]!) :
    Calls Try.prog 44 #[.slice (some ⟨g, 0, none⟩) N cap, .func (.func 45) #[] #[.pointer (some ⟨bx, 0, none⟩)]] w (SrtPost g cap d (fun d' => PermIn 0 N d d' ∧ SortedIn (ltT l) 0 N d') w) := by
  have HK := Lib.hid (stable_at l g cap bx N d w0 w hc hg0 hv hs hN hl hd)
  clear hc hg0 hv hs hd
  go_enter Try.func44, Try.ntmps44
  go_wp2_with fail
  refine HK.out.mono ?_
  rintro ex w1 ⟨rfl, d1, h⟩
  go_wp2
  go_end0
  exact ⟨rfl, d1, h⟩

/-- Nothing to sort. -/
theorem ins_nil (F : Value) (w : World) :
    Calls Try.prog 63 #[.slice none 0 0, .int .i64 0, .int .i64 0, F] w fun e w' => e = .returned (.tuple #[]) ∧ w' = w := by
  go_enter Try.func63, Try.ntmps63
  go_wp2
  go_loopw [8] (fun u wr => u = .int .i64 1 ∧ wr = w) (fun _ _ => 0)
  case atStart => exact ⟨rfl, rfl⟩
  case round =>
    obtain ⟨rfl, rfl⟩ := hrel
    go_wp2
    go_end0
    exact ⟨rfl, rfl⟩

theorem pstable_nil (F : Value) (w : World) :
    Calls Try.prog 55 #[.slice none 0 0, .int .i64 0, F] w fun e w' => e = .returned (.tuple #[]) ∧ w' = w := by
  go_enter Try.func55, Try.ntmps55
  go_wp2
  go_loopw [7, 8] (fun u v wr => u = .int .i64 0 ∧ v = .int .i64 20 ∧ wr = w) (fun _ _ _ => 0)
  case atStart => exact ⟨rfl, rfl, rfl⟩
  case round =>
    obtain ⟨rfl, rfl, rfl⟩ := hrel
    go_wp2_with fail
    refine (ins_nil F _).mono ?_
    rintro ex w1 ⟨rfl, rfl⟩
    go_wp2
    go_loopw [6] (fun u wr => u = .int .i64 20 ∧ wr = w1) (fun _ _ => 0)
    case atStart => exact ⟨rfl, rfl⟩
    case round =>
      obtain ⟨rfl, rfl⟩ := hrel
      go_wp2
      go_end0
      exact ⟨rfl, rfl⟩

theorem sort_nil (F : Value) (w : World) :
    Calls Try.prog 44 #[.slice none 0 0, F] w fun e w' => e = .returned (.tuple #[]) ∧ w' = w := by
  go_enter Try.func44, Try.ntmps44
  go_wp2_with fail
  refine (pstable_nil F _).mono ?_
  rintro ex w1 ⟨rfl, rfl⟩
  go_wp2
  go_end0
  exact ⟨rfl, rfl⟩

end Go.Proofs.Ytmnnpfohjffniaa
