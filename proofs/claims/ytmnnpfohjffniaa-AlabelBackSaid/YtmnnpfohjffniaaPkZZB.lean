/-
  The library's stable sort: the comparison, the rotation, the insertion sort.
  The library's stable sort: the insertion sort of a block whose indices ascend.
-/
import Derived.Test.YtmnnpfohjffniaaQPunRow
set_option linter.unusedSimpArgs false
set_option linter.unusedVariables false
namespace Go.Proofs.Ytmnnpfohjffniaa
open Go.RowKit Go.Sort
set_option linter.unusedVariables false

set_option maxHeartbeats 400000 in
theorem nan_at (x : Int) (w : World) : Calls Try.prog 56 #[.int .i64 x] w fun e w' => e = .returned (.bool false) ∧ w' = w := by
  have h : (x != x) = false := by simp
  go_enter Try.func56, Try.ntmps56
  go_wp2
  go_ret
  exact ⟨rfl, rfl⟩

def cmpV (x y : Int) : Int := if x < y then -1 else if y < x then 1 else 0
theorem cmpV_key (l : List Int) (x y : Int) : cmpV (keyS l x) (keyS l y) = pcmpI l x y := rfl

set_option maxHeartbeats 400000 in
theorem cmpV_at (x y c : Int) (w : World) (hc : Hid (cmpV x y = c)) : Calls Try.prog 46 #[.int .i64 x, .int .i64 y] w fun e w' => e = .returned (.int .i64 c) ∧ w' = w := by
  rcases (show x < y ∨ (¬ x < y ∧ y < x) ∨ (¬ x < y ∧ ¬ y < x) by omega) with h | ⟨h, h2⟩ | ⟨h, h2⟩
  · obtain rfl : -1 = c := by rw [← hc.out]; unfold cmpV; rw [if_pos h]
    clear hc
    go_enter Try.func46, Try.ntmps46
    go_wp2_with (go_at_call 56; refine (nan_at _ _).mono ?_; rintro e w' ⟨rfl, rfl⟩)
    go_ret
    exact ⟨rfl, rfl⟩
  · obtain rfl : 1 = c := by rw [← hc.out]; unfold cmpV; rw [if_neg h, if_pos h2]
    clear hc
    go_enter Try.func46, Try.ntmps46
    go_wp2_with (go_at_call 56; refine (nan_at _ _).mono ?_; rintro e w' ⟨rfl, rfl⟩)
    go_ret
    exact ⟨rfl, rfl⟩
  · obtain rfl : 0 = c := by rw [← hc.out]; unfold cmpV; rw [if_neg h, if_neg h2]
    clear hc
    go_enter Try.func46, Try.ntmps46
    go_wp2_with (go_at_call 56; refine (nan_at _ _).mono ?_; rintro e w' ⟨rfl, rfl⟩)
    go_ret
    exact ⟨rfl, rfl⟩

/-- The comparison of places, in every world that differs in the sorted row alone. -/
def CmpOk (l : List Int) (bx g : Nat) (w0 : World) : Prop :=
  ∀ W, w0.grownBy W (some g) → ∀ x y c : Int, 0 ≤ x → x < l.length → 0 ≤ y → y < l.length → Hid (pcmpI l x y = c) →
    Calls Try.prog 45 #[.int .i64 x, .int .i64 y, .pointer (some ⟨bx, 0, none⟩)] W fun e w' => e = .returned (.int .i64 c) ∧ ∃ q, w' = W.drewN q

set_option maxHeartbeats 1000000 in
theorem closure_at (l : List Int) (p : Option Addr) (cap bx : Nat) (W : World) (hb : W.cell? ⟨bx, 0, none⟩ = some (.slice p l.length cap)) (hin : IntsIn W p l) (hl : l.length ≤ 17592186043904) (x y c : Int) (hx0 : 0 ≤ x) (hx1 : x < l.length) (hy0 : 0 ≤ y) (hy1 : y < l.length) (hc : Hid (pcmpI l x y = c)) :
    Calls Try.prog 45 #[.int .i64 x, .int .i64 y, .pointer (some ⟨bx, 0, none⟩)] W fun e w' => e = .returned (.int .i64 c) ∧ ∃ q, w' = W.drewN q := by
  obtain ⟨i, rfl⟩ : ∃ i : Nat, x = i := ⟨x.toNat, by omega⟩
  obtain ⟨j, rfl⟩ : ∃ j : Nat, y = j := ⟨y.toNat, by omega⟩
  obtain ⟨b1, o1, rfl, c1⟩ := hin i (by omega)
  obtain ⟨b2, o2, e2, c2⟩ := hin j (by omega)
  cases e2
  have hcc : Hid (cmpV (l.getD i 0) (l.getD j 0) = c) := hc
  obtain ⟨X, hX⟩ : ∃ X, l.getD i 0 = X := ⟨_, rfl⟩
  obtain ⟨Y, hY⟩ : ∃ Y, l.getD j 0 = Y := ⟨_, rfl⟩
  rw [hX] at c1 hcc
  rw [hY] at c2 hcc
  clear hX hY hin hc
  go_enter Try.func45, Try.ntmps45
  go_wp2_with fail
  go_quiet ((go_at_call 46; exact Calls.quiet_of_same (cmpV_at _ _ c _ hcc)))
  go_wp2
  go_ret
  exact ⟨rfl, _, rfl⟩

/-- All of a row are places of l. -/
def Val (l : List Int) (d : Array Int) : Prop := ∀ i, i < d.size → 0 ≤ d[i]! ∧ d[i]! < l.length
theorem Val.perm {l : List Int} {a b : Nat} {d d' : Array Int} (h : Val l d) (hp : PermIn a b d d') (hb : b ≤ d.size) : Val l d' := by
  intro i hi
  rw [hp.1] at hi
  by_cases hin : a ≤ i ∧ i < b
  · exact permIn_all d d' a b (fun x => 0 ≤ x ∧ x < l.length) hb hp (fun i _ h2 => h i (by omega)) i hin.1 hin.2
  · rw [hp.2.1 i (by omega)]; exact h i hi

set_option maxHeartbeats 2000000 in
theorem rotate_at (g cap a m b : Nat) (d : Array Int) (F : Value) (w : World) (hs : SRow w g cap d) (hl : d.size ≤ 1099511627776) (ham : a < m) (hmb : m < b) (hb : b ≤ d.size) :
    Calls Try.prog 67 #[.slice (some ⟨g, 0, none⟩) d.size cap, .int .i64 a, .int .i64 m, .int .i64 b, F] w (SrtPost g cap d (fun d' => (∀ k, d'[k]! = rotF a m b (fun k => d[k]!) k) ∧ PermIn a b d d') w) := by
  have HS := Lib.hid hs
  obtain ⟨N, hN⟩ : ∃ N, d.size = N := ⟨_, rfl⟩
  rw [hN] at hl hb ⊢
  have HN := Lib.hid hN
  clear hs hN
  go_enter Try.func67, Try.ntmps67
  go_wp2
  go_loopw [10, 11] (fun u v wr => ∃ (i j : Nat) (dk : Array Int), u = .int .i64 i ∧ v = .int .i64 j ∧ 1 ≤ i ∧ 1 ≤ j ∧ a + i ≤ m ∧ m + j ≤ b ∧ Hid (dk.size = d.size) ∧ Hid (SRow wr g cap dk) ∧ Hid (∀ k, rotF (m - i) m (m + j) (fun k => dk[k]!) k = rotF a m b (fun k => d[k]!) k) ∧ Hid (PermIn a b d dk) ∧ Hid (w.grownBy wr (some g))) (fun u v _ => (intOf u).toNat + (intOf v).toNat)
  case atStart => exact ⟨m - a, b - m, d, by go_num, by go_num, by omega, by omega, by omega, by omega, rfl, HS, fun k => by rw [show m - (m - a) = a by omega, show m + (b - m) = b by omega], permIn_refl d a b, grown_refl _ _⟩
  case round =>
    obtain ⟨i, j, dk, rfl, rfl, hi, hj, him, hjb, hsz, hsr, hx, hp, hg⟩ := hrel
    rcases Nat.lt_trichotomy i j with hlt | heq | hlt
    · have hne : ((i : Int) != (j : Int)) = true := by simp; omega
      have hng : ¬ (j : Int) < (i : Int) := by omega
      obtain ⟨s, hss⟩ : ∃ s, m - i = s := ⟨_, rfl⟩
      obtain ⟨t, htt⟩ : ∃ t, m + j - i = t := ⟨_, rfl⟩
      have hsI : (m : Int) - (i : Int) = (s : Int) := by omega
      have htI : (m : Int) + (j : Int) - (i : Int) = (t : Int) := by omega
      go_wp2_with fail
      rw [← HN.out, ← hsz.out]
      refine (swapRange_at g cap s t i dk F wr hsr.out (by rw [hsz.out, HN.out]; exact hl) (by omega) (by rw [hsz.out, HN.out]; omega)).mono ?_
      rintro e w1 ⟨rfl, d1, hs1, hz1, ⟨hx1, hp1⟩, hg1⟩
      have HZ1 : Hid (d1.size = d.size) := by unfold Hid; rw [hz1]; exact hsz.out
      have HS1 := Lib.hid hs1
      have HG1 := Lib.hid (grownBy_trans hg.out hg1)
      have HX1 : Hid (∀ k, rotF (m - i) m (m + (j - i)) (fun k => d1[k]!) k = rotF a m b (fun k => d[k]!) k) := by
        intro k
        rw [← hx.out k, rotF_right (show i ≤ m by omega) hlt]
        exact rotF_congr (fun k => by rw [hss, htt]; exact hx1 k) k
      have HP1 : Hid (PermIn a b d d1) := permIn_trans _ _ _ _ _ hp.out (permIn_mono dk d1 s (t + i) a b (by omega) (by omega) (by rw [hsz.out, HN.out]; exact hb) hp1)
      have HN1 : Hid (dk.size = N) := by unfold Hid; rw [hsz.out]; exact HN.out
      rw [HN1.out]
      clear hs1 hz1 hx1 hp1 hg1 hx hp hg hsr hss htt
      go_wp2
      go_roundw
      case rel => exact ⟨i, j - i, d1, by go_num, by go_num, hi, by omega, him, by omega, HZ1, HS1, HX1, HP1, HG1⟩
      case measure => simp [intOf]; omega
    · subst heq
      have hne : ((i : Int) != (i : Int)) = false := by simp
      obtain ⟨s, hss⟩ : ∃ s, m - i = s := ⟨_, rfl⟩
      have hsI : (m : Int) - (i : Int) = (s : Int) := by omega
      go_wp2_with fail
      rw [← HN.out, ← hsz.out]
      refine (swapRange_at g cap s m i dk F wr hsr.out (by rw [hsz.out, HN.out]; exact hl) (by omega) (by rw [hsz.out, HN.out]; omega)).mono ?_
      rintro e w1 ⟨rfl, d1, hs1, hz1, ⟨hx1, hp1⟩, hg1⟩
      have HZ1 : Hid (d1.size = d.size) := by unfold Hid; rw [hz1]; exact hsz.out
      have HS1 := Lib.hid hs1
      have HG1 := Lib.hid (grownBy_trans hg.out hg1)
      have HX1 : Hid (∀ k, d1[k]! = rotF a m b (fun k => d[k]!) k) := by
        intro k
        rw [← hx.out k, rotF_end (show i ≤ m by omega), hx1 k, hss]
      have HP1 : Hid (PermIn a b d d1) := permIn_trans _ _ _ _ _ hp.out (permIn_mono dk d1 s (m + i) a b (by omega) (by omega) (by rw [hsz.out, HN.out]; exact hb) hp1)
      clear hs1 hz1 hx1 hp1 hg1 hx hp hg hsr hss
      go_wp2
      go_end0
      exact ⟨rfl, d1, HS1.out, HZ1.out, ⟨HX1.out, HP1.out⟩, HG1.out⟩
    · have hne : ((i : Int) != (j : Int)) = true := by simp; omega
      have hng : (j : Int) < (i : Int) := by omega
      obtain ⟨s, hss⟩ : ∃ s, m - i = s := ⟨_, rfl⟩
      have hsI : (m : Int) - (i : Int) = (s : Int) := by omega
      go_wp2_with fail
      rw [← HN.out, ← hsz.out]
      refine (swapRange_at g cap s m j dk F wr hsr.out (by rw [hsz.out, HN.out]; exact hl) (by omega) (by rw [hsz.out, HN.out]; omega)).mono ?_
      rintro e w1 ⟨rfl, d1, hs1, hz1, ⟨hx1, hp1⟩, hg1⟩
      have HZ1 : Hid (d1.size = d.size) := by unfold Hid; rw [hz1]; exact hsz.out
      have HS1 := Lib.hid hs1
      have HG1 := Lib.hid (grownBy_trans hg.out hg1)
      have HX1 : Hid (∀ k, rotF (m - (i - j)) m (m + j) (fun k => d1[k]!) k = rotF a m b (fun k => d[k]!) k) := by
        intro k
        rw [← hx.out k, rotF_left (show i ≤ m by omega) hlt]
        exact rotF_congr (fun k => by rw [hss]; exact hx1 k) k
      have HP1 : Hid (PermIn a b d d1) := permIn_trans _ _ _ _ _ hp.out (permIn_mono dk d1 s (m + j) a b (by omega) (by omega) (by rw [hsz.out, HN.out]; exact hb) hp1)
      have HN1 : Hid (dk.size = N) := by unfold Hid; rw [hsz.out]; exact HN.out
      rw [HN1.out]
      clear hs1 hz1 hx1 hp1 hg1 hx hp hg hsr hss
      go_wp2
      go_roundw
      case rel => exact ⟨i - j, j, d1, by go_num, by go_num, by omega, hj, by omega, hjb, HZ1, HS1, HX1, HP1, HG1⟩
      case measure => simp [intOf]; omega

end Go.Proofs.Ytmnnpfohjffniaa

namespace Go.Proofs.Ytmnnpfohjffniaa
open Go.RowKit Go.Sort
set_option linter.unusedVariables false

theorem swp_ne (d : Array Int) {i j k : Nat} (h1 : k ≠ i) (h2 : k ≠ j) : (swp d i j)[k]! = d[k]! := swp_other d i j k h1 h2

/-- What the inner loop keeps. -/
structure InnSt (l : List Int) (a j i : Nat) (x : Int) (d dj : Array Int) : Prop where
  ins : Ins (ltT l) a j i dj
  at_ : dj[j]! = x
  low : ∀ p, a ≤ p → p ≤ i → p ≠ j → dj[p]! < x
  perm : PermIn a (i + 1) d dj

theorem InnSt.start {l : List Int} {a i : Nat} {d dk : Array Int} (hai : a ≤ i) (hi : i < d.size) (hp : PermIn a i d dk) (hs : SortedIn (ltT l) a i dk) (hd : ∀ p, a ≤ p → p < i → d[p]! < d[i]!) : InnSt l a i i d[i]! d dk where
  ins := ⟨fun p q h1 h2 h3 h4 h5 => hs p q h1 h2 (by omega), fun q h1 h2 => by omega⟩
  at_ := hp.2.1 i (.inr (Nat.le_refl i))
  low p h1 h2 h3 := permIn_all d dk a i (fun y => y < d[i]!) (by omega) hp hd p h1 (by omega)
  perm := permIn_mono d dk a i a (i + 1) (Nat.le_refl a) (by omega) (by omega) hp

theorem InnSt.step {l : List Int} {a j i : Nat} {x : Int} {d dj : Array Int} (h : InnSt l a (j + 1) i x d dj) (haj : a ≤ j) (hji : j + 1 ≤ i) (hi : i < d.size) (hl : ltT l x dj[j]! = true) : InnSt l a j i x d (swp dj (j + 1) j) := by
  have hz := h.perm.1
  have hsw := swp_get dj (show j + 1 < dj.size by omega) (show j < dj.size by omega)
  refine ⟨h.ins.step (by rw [h.at_]; exact hl) haj (by omega), ?_, ?_, ?_⟩
  · rw [hsw, if_pos rfl]; exact h.at_
  · intro p h1 h2 h3
    rw [hsw, if_neg h3]
    by_cases e : p = j + 1
    · rw [if_pos e]; exact h.low j haj (by omega) (by omega)
    · rw [if_neg e]; exact h.low p h1 h2 e
  · exact permIn_trans _ _ _ _ _ h.perm (swp_permIn dj a (i + 1) (j + 1) j (by omega) (by omega) haj (by omega) (by omega))

set_option maxHeartbeats 4000000 in
theorem ins_at (l : List Int) (g cap bx a b : Nat) (d : Array Int) (w0 w : World) (hc : CmpOk l bx g w0) (hg0 : w0.grownBy w (some g)) (hv : Val l d) (hs : SRow w g cap d) (hl : d.size ≤ 1099511627776) (hab : a ≤ b) (hb : b ≤ d.size) (hd : ∀ i j, a ≤ i → i < j → j < b → d[i]! < d[j]!) :
    Calls Try.prog 63 #[.slice (some ⟨g, 0, none⟩) d.size cap, .int .i64 a, .int .i64 b, .func (.func 45) #[] #[.pointer (some ⟨bx, 0, none⟩)]] w (SrtPost g cap d (fun d' => PermIn a b d d' ∧ SortedIn (ltT l) a b d') w) := by
  have HC := Lib.hid hc
  have HG0 := Lib.hid hg0
  have HV := Lib.hid hv
  have HS := Lib.hid hs
  have HD := Lib.hid hd
  obtain ⟨N, hN⟩ : ∃ N, d.size = N := ⟨_, rfl⟩
  rw [hN] at hl hb ⊢
  have HN := Lib.hid hN
  clear hs hN hc hg0 hv hd
  go_enter Try.func63, Try.ntmps63
  go_wp2
  go_loopw [8] (fun u wr => ∃ (i : Nat) (dk : Array Int), u = .int .i64 i ∧ a + 1 ≤ i ∧ (i ≤ b ∨ (b < i ∧ i = a + 1 ∧ dk = d)) ∧ Hid (SRow wr g cap dk) ∧ Hid (PermIn a i d dk) ∧ Hid (SortedIn (ltT l) a i dk) ∧ Hid (w.grownBy wr (some g))) (fun u _ => b + 1 - (intOf u).toNat)
  case atStart => exact ⟨a + 1, d, by go_num, by omega, by by_cases h : a + 1 ≤ b; exact .inl h; exact .inr ⟨by omega, rfl, rfl⟩, HS, permIn_refl d a (a + 1), fun i j h1 h2 h3 => by omega, grown_refl _ _⟩
  case round =>
    obtain ⟨i, dk, rfl, hai, hib, hsr, hp, hso, hg⟩ := hrel
    by_cases hlt : i < b
    · have HI0 : Hid (InnSt l a i i d[i]! d dk) := InnSt.start (by omega) (by rw [HN.out]; omega) hp.out hso.out (fun p h1 h2 => HD.out p i h1 h2 hlt)
      obtain ⟨x, hx⟩ : ∃ x, d[i]! = x := ⟨_, rfl⟩
      have hvx := HV.out i (by rw [HN.out]; omega)
      rw [hx] at HI0 hvx
      obtain ⟨hx0, hx1⟩ := hvx
      clear hx hp hso
      have hib2 : i ≤ b := by omega
      clear hib
      go_wp2
      go_loopw [9] (fun u wr2 => ∃ (j : Nat) (dj : Array Int), u = .int .i64 j ∧ a ≤ j ∧ j ≤ i ∧ Hid (SRow wr2 g cap dj) ∧ Hid (InnSt l a j i x d dj) ∧ Hid (w.grownBy wr2 (some g))) (fun u _ => (intOf u).toNat)
      case atStart => exact ⟨i, dk, rfl, by omega, Nat.le_refl _, hsr, HI0, hg⟩
      case round =>
        obtain ⟨j, dj, rfl, haj, hji, hsj, hin, hg2⟩ := hrel
        have hzj : Hid (dj.size = N) := by unfold Hid; rw [hin.out.perm.1]; exact HN.out
        by_cases hja : a < j
        · obtain ⟨jp, rfl⟩ : ∃ jp, j = jp + 1 := ⟨j - 1, by omega⟩
          obtain ⟨j1, hj1⟩ : ∃ j1, jp + 1 = j1 := ⟨_, rfl⟩
          have c1 := hsj.out.cell (i := jp + 1) (by rw [hzj.out]; omega)
          have c2 := hsj.out.cell (i := jp) (by rw [hzj.out]; omega)
          rw [hin.out.at_] at c1
          obtain ⟨y, hy⟩ : ∃ y, dj[jp]! = y := ⟨_, rfl⟩
          have hyx : y < x := by rw [← hy]; exact hin.out.low jp (by omega) (by omega) (by omega)
          have hvy : 0 ≤ y ∧ y < l.length := by
            rw [← hy]; exact (HV.out.perm hin.out.perm (by rw [HN.out]; omega)) jp (by rw [hzj.out]; omega)
          obtain ⟨hy0, hy1⟩ := hvy
          rw [hy] at c2
          have f1 := hsj.out.soft (jp + 1)
          have f2 := hsj.out.soft jp
          have HSW : Hid (SRow ((wr.setCell ⟨g, jp + 1, none⟩ (.int .i64 y)).setCell ⟨g, jp, none⟩ (.int .i64 x)) g cap (swp dj (jp + 1) jp)) := by
            unfold Hid; rw [← hy, ← hin.out.at_]; exact hsj.out.swp (by rw [hzj.out]; omega) (by rw [hzj.out]; omega)
          have HY := Lib.hid hy
          have hjI : (jp : Int) + 1 = (j1 : Int) := by omega
          have hjI2 : (j1 : Int) - 1 = (jp : Int) := by omega
          rw [hj1] at c1 f1 HSW ⊢
          have HJ1 := Lib.hid hj1
          have hjN : j1 < N := by omega
          have hjN2 : jp < N := by omega
          have hja2 : a < j1 := by omega
          have hjne : j1 ≠ jp := by omega
          clear hy hj1 hja
          by_cases hcv : pcmpI l x y < 0
          · have HT : Hid (ltT l x y = true) := by unfold Hid; rw [← ltC_eq hyx]; exact pcmpI_iff.1 hcv
            obtain ⟨cv, hcve⟩ : ∃ cv, pcmpI l x y = cv := ⟨_, rfl⟩
            rw [hcve] at hcv
            have HCV := Lib.hid hcve
            clear hcve
            go_wp2_with fail
            go_quiet ((go_at_call 45; exact Calls.quiet_of (HC.out _ (grownBy_trans HG0.out (grownBy_drewN hg2.out _)) x y cv hx0 hx1 hy0 hy1 HCV)))
            have HSW2 : Hid (SRow (((wr.drewN nq).setCell ⟨g, j1, none⟩ (.int .i64 y)).setCell ⟨g, jp, none⟩ (.int .i64 x)).drew g cap (swp dj j1 jp)) := HSW.out
            have HG3 : Hid (w.grownBy (((wr.drewN nq).setCell ⟨g, j1, none⟩ (.int .i64 y)).setCell ⟨g, jp, none⟩ (.int .i64 x)).drew (some g)) := grown_drew (grownBy_trans (grownBy_drewN hg2.out nq) (grown2 _ _ _ _ _ _))
            have HIN : Hid (InnSt l a jp i x d (swp dj j1 jp)) := by
              unfold Hid; rw [← HJ1.out]
              exact hin.out.step (by omega) hji (by rw [HN.out]; omega) (by rw [HY.out]; exact HT.out)
            have e1 : (wr.drewN nq).cell? ⟨g, j1, none⟩ = some (.int .i64 x) := c1
            have e2 : (wr.drewN nq).cell? ⟨g, jp, none⟩ = some (.int .i64 y) := c2
            have e3 : (wr.drewN nq).frozen? ⟨g, j1, none⟩ = false := f1
            have e4 : (wr.drewN nq).frozen? ⟨g, jp, none⟩ = false := f2
            clear c1 c2 f1 f2 hsj hin HSW HT
            generalize wr.drewN nq = wq at e1 e2 e3 e4 HSW2 HG3 ⊢
            go_wp2_with fail
            go_region
            go_wp2
            go_roundw
            case rel => exact ⟨jp, swp dj j1 jp, rfl, by omega, by omega, HSW2, HIN, HG3⟩
            case measure => simp [intOf]; omega
          · have HT : Hid (ltT l x y = false) := by
              unfold Hid; rw [← ltC_eq hyx]
              cases hb2 : ltC l x y with
              | false => rfl
              | true => exact absurd (pcmpI_iff.2 hb2) hcv
            obtain ⟨cv, hcve⟩ : ∃ cv, pcmpI l x y = cv := ⟨_, rfl⟩
            rw [hcve] at hcv
            have HCV := Lib.hid hcve
            have HSO : Hid (SortedIn (ltT l) a (i + 1) dj) := hin.out.ins.stop (ltT_swo l) (Or.inr (by rw [Nat.add_sub_cancel, hin.out.at_, HY.out]; exact HT.out))
            have HPE := Lib.hid hin.out.perm
            clear hcve
            go_wp2_with fail
            go_quiet ((go_at_call 45; exact Calls.quiet_of (HC.out _ (grownBy_trans HG0.out (grownBy_drewN hg2.out _)) x y cv hx0 hx1 hy0 hy1 HCV)))
            go_wp2
            go_roundw
            case rel => exact ⟨i + 1, dj, by go_num, by omega, .inl (by omega), hsj.out, HPE, HSO, grownBy_drewN hg2.out _⟩
            case measure => simp [intOf]; omega
        · have HSO : Hid (SortedIn (ltT l) a (i + 1) dj) := hin.out.ins.stop (ltT_swo l) (Or.inl (by omega))
          have HPE := Lib.hid hin.out.perm
          have d1 : decide ((a : Int) < (j : Int)) = false := decide_eq_false (by omega)
          have d2 : decide (a < j) = false := decide_eq_false (by omega)
          go_wp2_with fail
          go_quiet (fail)
          go_wp2
          go_roundw
          case rel => exact ⟨i + 1, dj, by go_num, by omega, .inl (by omega), hsj.out, HPE, HSO, grownBy_drewN hg2.out _⟩
          case measure => simp [intOf]; omega
    · rcases hib with hib | ⟨hib, hia, rfl⟩
      · obtain rfl : i = b := by omega
        go_wp2
        go_end0
        exact ⟨rfl, dk, hsr.out, hp.out.1, ⟨hp.out, hso.out⟩, hg.out⟩
      · go_wp2
        go_end0
        exact ⟨rfl, dk, hsr.out, rfl, ⟨permIn_refl dk a b, fun i j h1 h2 h3 => by omega⟩, hg.out⟩

end Go.Proofs.Ytmnnpfohjffniaa
