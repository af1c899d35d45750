/-
  The library's stable sort: a row of indices, and the exchange of two ranges of it.
-/
import Derived.Test.YtmnnpfohjffniaaPkG
import Derived.Test.YtmnnpfohjffniaaQPunSrt
import Derived.Deep.QuietTactic
import Derived.BigQuiet
import Derived.BigRegion
import Derived.Laws.OwnMore
set_option linter.unusedSimpArgs false
set_option linter.unusedVariables false
namespace Go.Proofs.Ytmnnpfohjffniaa
open Go.RowKit Go.Sort
set_option linter.unusedVariables false

/-- Block g is a row of ints of cap cells, of which the first ones are d. -/
def SRow (w : World) (g cap : Nat) (d : Array Int) : Prop :=
  ∃ cur : Array Value, w.heap[g]? = some (.cells cur 3 (0, 0)) ∧ cur.size = cap ∧ d.size ≤ cap ∧ ∀ i, i < d.size → cur[i]? = some (.int .i64 d[i]!)

theorem SRow.cell {w : World} {g cap : Nat} {d : Array Int} (h : SRow w g cap d) {i : Nat} (hi : i < d.size) : w.cell? ⟨g, i, none⟩ = some (.int .i64 d[i]!) := by
  obtain ⟨cur, h1, h2, h3, h4⟩ := h
  simp [World.cell?, h1, h4 i hi]
theorem SRow.soft {w : World} {g cap : Nat} {d : Array Int} (h : SRow w g cap d) (i : Nat) : w.frozen? ⟨g, i, none⟩ = false := by
  obtain ⟨cur, h1, _⟩ := h
  simp [World.frozen?, h1]
theorem SRow.lt {w : World} {g cap : Nat} {d : Array Int} (h : SRow w g cap d) : g < w.heap.size := by
  obtain ⟨cur, h1, _⟩ := h
  exact (Array.getElem?_eq_some_iff.1 h1).1
theorem SRow.room {w : World} {g cap : Nat} {d : Array Int} (h : SRow w g cap d) : d.size ≤ cap := by obtain ⟨cur, _, _, h3, _⟩ := h; exact h3
theorem SRow.drew {w : World} {g cap : Nat} {d : Array Int} (h : SRow w g cap d) : SRow w.drew g cap d := h
theorem SRow.drewN {w : World} {g cap : Nat} {d : Array Int} (h : SRow w g cap d) (n : Nat) : SRow (w.drewN n) g cap d := h
theorem SRow.set {w : World} {g cap : Nat} {d : Array Int} (h : SRow w g cap d) {i : Nat} (hi : i < d.size) (x : Int) : SRow (w.setCell ⟨g, i, none⟩ (.int .i64 x)) g cap (d.setIfInBounds i x) := by
  obtain ⟨cur, h1, h2, h3, h4⟩ := h
  refine ⟨cur.setIfInBounds i (.int .i64 x), ?_, by simpa using h2, by simpa using h3, fun k hk => ?_⟩
  · rw [setCell_eq_setRow w g i cur _ _ _ h1]; exact setRow_heap w g cur _ _ _ h1
  · have hk' : k < d.size := by simpa using hk
    rw [Array.getElem?_setIfInBounds]
    by_cases e : i = k
    · subst e
      rw [if_pos rfl, if_pos (by omega)]
      rw [getElem!_pos _ i (by simpa using hi)]
      simp
    · rw [if_neg e, h4 k hk']
      congr 2
      have e2 : (d.setIfInBounds i x)[k]! = d[k]! := by
        rw [getElem!_pos _ k (by simpa using hk'), getElem!_pos d k hk', Array.getElem_setIfInBounds, if_neg e]
      rw [e2]
theorem SRow.swp {w : World} {g cap : Nat} {d : Array Int} (h : SRow w g cap d) {i j : Nat} (hi : i < d.size) (hj : j < d.size) :
    SRow ((w.setCell ⟨g, i, none⟩ (.int .i64 d[j]!)).setCell ⟨g, j, none⟩ (.int .i64 d[i]!)) g cap (swp d i j) := (h.set hi _).set (by simpa using hj) _
theorem SRow.grown {w w' : World} {g cap : Nat} {d : Array Int} {row : Option Nat} (h : SRow w g cap d) (hg : w.grownBy w' row) (hr : row ≠ some g) : SRow w' g cap d := by
  obtain ⟨cur, h1, h2⟩ := h
  refine ⟨cur, ?_, h2⟩
  rw [hg.block g (Array.getElem?_eq_some_iff.1 h1).1 (fun e => hr e.symm)]
  exact h1

theorem grown2 (w : World) (g i j : Nat) (u v : Value) : w.grownBy ((w.setCell ⟨g, i, none⟩ u).setCell ⟨g, j, none⟩ v) (some g) := grownBy_trans (grownBy_store w g i u) (grownBy_store _ g j v)

theorem grown_drew {w w' : World} {row : Option Nat} (h : w.grownBy w' row) : w.grownBy w'.drew row := ⟨h.os, h.tape, h.output, h.size, h.block⟩
theorem grown_refl (w : World) (row : Option Nat) : w.grownBy w row := ⟨rfl, rfl, rfl, Nat.le_refl _, fun _ _ _ => rfl⟩

/-- A row of the call's own, and back. -/
theorem SRow.ofInts {w : World} {B : Nat} {v : Value} {xs : List Int} (h : Ints w B v xs) (h0 : xs ≠ []) : ∃ g cap, v = .slice (some ⟨g, 0, none⟩) xs.length cap ∧ B ≤ g ∧ cap ≤ maxLen ∧ SRow w g cap xs.toArray := by
  obtain ⟨h1, h2⟩ := h
  rcases h2 with ⟨rfl, h3⟩ | ⟨g, cap, cur, rfl, hB, hg, hn, hc, hs, ht⟩
  · exact absurd (List.eq_nil_of_length_eq_zero h3) h0
  · refine ⟨g, cap, rfl, hB, hc, cur, hg, by simpa using hs, by simpa using hn, fun i hi => ?_⟩
    have hi' : i < xs.length := by simpa using hi
    have e : (cur.toList.take (xs.length * 1))[i]? = (xs.map (Value.int .i64))[i]? := by rw [ht]
    rw [List.getElem?_take, if_pos (by omega), Array.getElem?_toList] at e
    rw [e, List.getElem?_map, List.getElem?_eq_getElem hi', getElem!_pos _ i hi]
    simp
theorem SRow.toInts {w : World} {B g cap : Nat} {d : Array Int} (h : SRow w g cap d) (hB : B ≤ g) (hc : cap ≤ maxLen) : Ints w B (.slice (some ⟨g, 0, none⟩) d.size cap) d.toList := by
  obtain ⟨cur, h1, h2, h3, h4⟩ := h
  refine ⟨by simp, .inr ⟨g, cap, cur, by simp, hB, h1, by simpa using h3, hc, by simpa using h2, ?_⟩⟩
  apply List.ext_getElem?
  intro i
  rw [List.getElem?_take]
  by_cases hi : i < d.size
  · rw [if_pos (by simpa using hi), Array.getElem?_toList, h4 i hi, List.getElem?_map, List.getElem?_eq_getElem (by simpa using hi), getElem!_pos d i hi]
    simp
  · rw [if_neg (by simpa using hi), List.getElem?_eq_none (by simpa using hi)]

/-- What a function of the sort leaves. -/
def SrtPost (g cap : Nat) (d : Array Int) (R : Array Int → Prop) (w : World) (e : Ending) (w' : World) : Prop :=
  e = .returned (.tuple #[]) ∧ ∃ d' : Array Int, SRow w' g cap d' ∧ d'.size = d.size ∧ R d' ∧ w.grownBy w' (some g)

theorem xch_zero (a b : Nat) (d : Nat → Int) (k : Nat) : xchF a b 0 d k = d k := by unfold xchF; rw [if_neg (by omega), if_neg (by omega)]
theorem xch_step {a b i : Nat} {d dk : Array Int} (h : ∀ k, dk[k]! = xchF a b i (fun k => d[k]!) k) (ha : a + i < b) (hb : b + i < dk.size) (k : Nat) : (swp dk (a + i) (b + i))[k]! = xchF a b (i + 1) (fun k => d[k]!) k := by
  rw [swp_get dk (by omega) hb]
  have ka := h (a + i)
  have kb := h (b + i)
  have kk := h k
  unfold xchF at *
  rw [if_neg (by omega), if_neg (by omega)] at ka kb
  by_cases e1 : k = b + i
  · rw [if_pos e1, ka, if_neg (by omega), if_pos (by omega)]
    simp only [e1]; congr 1; omega
  · rw [if_neg e1]
    by_cases e2 : k = a + i
    · rw [if_pos e2, kb, if_pos (by omega)]
      simp only [e2]; congr 1; omega
    · rw [if_neg e2, kk]
      by_cases c1 : a ≤ k ∧ k < a + i
      · rw [if_pos c1, if_pos (show a ≤ k ∧ k < a + (i + 1) by omega)]
      · rw [if_neg c1, if_neg (show ¬ (a ≤ k ∧ k < a + (i + 1)) by omega)]
        by_cases c2 : b ≤ k ∧ k < b + i
        · rw [if_pos c2, if_pos (show b ≤ k ∧ k < b + (i + 1) by omega)]
        · rw [if_neg c2, if_neg (show ¬ (b ≤ k ∧ k < b + (i + 1)) by omega)]

set_option maxHeartbeats 2000000 in
theorem swapRange_at (g cap a b n : Nat) (d : Array Int) (F : Value) (w : World) (hs : SRow w g cap d) (hl : d.size ≤ 1099511627776) (hab : a + n ≤ b) (hb : b + n ≤ d.size) :
    Calls Try.prog 69 #[.slice (some ⟨g, 0, none⟩) d.size cap, .int .i64 a, .int .i64 b, .int .i64 n, F] w (SrtPost g cap d (fun d' => (∀ k, d'[k]! = xchF a b n (fun k => d[k]!) k) ∧ PermIn a (b + n) d d') w) := by
  have HS := Lib.hid hs
  obtain ⟨N, hN⟩ : ∃ N, d.size = N := ⟨_, rfl⟩
  rw [hN] at hl hb ⊢
  have HN := Lib.hid hN
  clear hs hN
  go_enter Try.func69, Try.ntmps69
  go_wp2
  go_loopw [10] (fun u wr => ∃ (i : Nat) (dk : Array Int), u = .int .i64 i ∧ i ≤ n ∧ Hid (dk.size = d.size) ∧ Hid (SRow wr g cap dk) ∧ Hid (∀ k, dk[k]! = xchF a b i (fun k => d[k]!) k) ∧ Hid (PermIn a (b + n) d dk) ∧ Hid (w.grownBy wr (some g))) (fun u _ => n - (intOf u).toNat)
  case atStart => exact ⟨0, d, rfl, Nat.zero_le _, rfl, HS, fun k => (xch_zero _ _ _ _).symm, permIn_refl d a (b + n), World.grownBy.mk rfl rfl rfl (Nat.le_refl _) fun _ _ _ => rfl⟩
  case round =>
    obtain ⟨i, dk, rfl, hi, hsz, hsr, hx, hp, hg⟩ := hrel
    by_cases hlt : i < n
    · obtain ⟨p, hpp⟩ : ∃ p, a + i = p := ⟨_, rfl⟩
      obtain ⟨q, hqq⟩ : ∃ q, b + i = q := ⟨_, rfl⟩
      have hpz : (a : Int) + (i : Int) = (p : Int) := by omega
      have hqz : (b : Int) + (i : Int) = (q : Int) := by omega
      have hpN : p < N := by omega
      have hqN : q < N := by omega
      have hpq : p < q := by omega
      obtain ⟨X, hX⟩ : ∃ X, dk[p]! = X := ⟨_, rfl⟩
      obtain ⟨Y, hY⟩ : ∃ Y, dk[q]! = Y := ⟨_, rfl⟩
      have c1 := hsr.out.cell (i := p) (by rw [hsz.out, HN.out]; omega)
      have c2 := hsr.out.cell (i := q) (by rw [hsz.out, HN.out]; omega)
      rw [hX] at c1
      rw [hY] at c2
      have f1 := hsr.out.soft p
      have f2 := hsr.out.soft q
      have HS2 : Hid (SRow ((wr.setCell ⟨g, p, none⟩ (.int .i64 Y)).setCell ⟨g, q, none⟩ (.int .i64 X)) g cap (swp dk p q)) := by
        unfold Hid; rw [← hX, ← hY]; exact hsr.out.swp (by rw [hsz.out, HN.out]; omega) (by rw [hsz.out, HN.out]; omega)
      have HX2 : Hid (∀ k, (swp dk p q)[k]! = xchF a b (i + 1) (fun k => d[k]!) k) := by
        unfold Hid; rw [← hpp, ← hqq]; exact xch_step hx.out (by omega) (by rw [hsz.out, HN.out]; omega)
      have HP2 : Hid (PermIn a (b + n) d (swp dk p q)) := permIn_trans _ _ _ _ _ hp.out (swp_permIn dk a (b + n) p q (by omega) (by omega) (by omega) (by omega) (by rw [hsz.out, HN.out]; omega))
      have HZ2 : Hid ((swp dk p q).size = d.size) := by unfold Hid; rw [swp_size]; exact hsz.out
      have HG2 : Hid (w.grownBy ((wr.setCell ⟨g, p, none⟩ (.int .i64 Y)).setCell ⟨g, q, none⟩ (.int .i64 X)) (some g)) := grownBy_trans hg.out (grown2 _ _ _ _ _ _)
      clear hX hY hpp hqq hsr hsz hx hp
      go_wp2
      go_region
      go_wp2
      go_roundw
      case rel => exact ⟨i + 1, swp dk p q, by go_num, by omega, HZ2, HS2.out, HX2, HP2, grown_drew HG2.out⟩
      case measure => simp [intOf]; omega
    · obtain rfl : i = n := by omega
      go_wp2
      go_end0
      exact ⟨rfl, dk, hsr.out, hsz.out, ⟨hx.out, hp.out⟩, hg.out⟩

end Go.Proofs.Ytmnnpfohjffniaa
