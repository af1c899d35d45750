/-
  What the statements say of the lists that keep.Spans makes.
-/
import Derived.Test.YtkapjihjbflliaaRanAgrees
import Derived.Test.YtkapjihjbflliaaRanKeep
namespace Go.Proofs.Ytkapjihjbflliaa
open Go.RowKit

theorem Spans.caps {w : World} {B : Nat} {p : Option Addr} {n c : Nat} {l : List Sp} (h : Spans w B (.slice p n c) l) : n ≤ c ∧ (p = none → c = 0) := by
  rcases h.2 with ⟨h1, h2⟩ | ⟨g, cap, cur, h1, _, _, h4, _⟩
  · injection h1 with e1 e2 e3
    exact ⟨by omega, fun _ => e3⟩
  · injection h1 with e1 e2 e3
    subst e2 e3
    exact ⟨h4, fun hp => by rw [hp] at e1; cases e1⟩

theorem kspans_at (p : Option Addr) (cap n : Nat) (zs : List Int) (L : List Sp) (w : World) (hin : IntsIn w p zs) (hz : Hid (zs.length = n)) (hl : n ≤ 17592186043904) (hL : Hid (spansS zs = L)) :
    Calls Try.prog 12 #[.slice p n cap] w (OwnAt L w) := (kspans_any p cap n zs w hin hz.out hl).mono fun _ _ h => h.at_ hL.out

theorem pick_at (v n z : Int) (w : World) (h0 : 1 ≤ n) (h1 : n ≤ 1073741824) (hz : Hid (pickS v n = z)) :
    Calls Try.prog 13 #[.int .i64 v, .int .i64 n] w fun e w' => e = .returned (.int .i64 z) ∧ w = w' := by
  have := pick_any v n w h0 h1
  rw [hz.out] at this
  exact this

theorem pick_named (v n : Int) (h : 1 ≤ n) : ∃ z, Hid (pickS v n = z) ∧ 0 ≤ z ∧ z < n := ⟨_, rfl, pickS_bd v n h⟩

theorem spanLoop_ends (n : Nat) (r : List Int) (a : Int) : ends a (spanLoop n r a) ≤ a + 8 * n := by
  induction n generalizing r a with
  | zero => simp [spanLoop, ends]
  | succ n ih =>
    obtain ⟨x0, x1⟩ := nextV_bd r 4 (by omega)
    obtain ⟨y0, y1⟩ := nextV_bd r.tail.tail 5 (by omega)
    have := ih r.tail.tail.tail (a + nextV r 4 + nextV r.tail.tail 5 + 1)
    simp only [spanLoop, ends]
    omega

theorem spansS_none (l : List Int) (c : Int) (h : 60 ≤ c) : val (spansS l) c = none := by
  obtain ⟨x0, x1⟩ := nextV_bd l 5 (by omega)
  obtain ⟨y0, y1⟩ := nextV_bd l.tail 7 (by omega)
  have he := spanLoop_ends (nextV l.tail 7).toNat l.tail.tail (nextV l 5)
  refine val_none (spanLoop_asc _ _ _ (by omega)) (.inr ?_)
  omega

/-- A list of which no code point from N on has a value is short. -/
theorem short_of_none {L : List Sp} (h : ascB 0 L = true) (N : Nat) (hv : ∀ c, (N : Int) ≤ c → val L c = none) : L.length ≤ N := by
  rcases List.eq_nil_or_concat L with rfl | ⟨i, s, rfl⟩
  · simp
  · rw [List.concat_eq_append] at *
    have h2 := ends_ge h
    rw [ends_append] at h2
    simp only [ends] at h2
    have h0 := h
    rw [asc_append, asc_cons] at h
    have hs : val (i ++ [s]) s.2.1 = some s.2.2 := by
      rw [val_append, val_none h.1 (.inr (by omega)), val_cons, if_pos (by omega)]; rfl
    by_cases hc : (N : Int) ≤ s.2.1
    · rw [hv _ hc] at hs; cases hs
    · omega

theorem put_ok {a y : List Sp} {f t : Int} (ha : validS a = true) (hn : ∀ c, 60 ≤ c → val a c = none) (hf : 0 ≤ f) (hft : f ≤ t) (ht : t ≤ 150) (hy : ascB f y = true) (he : ends f y ≤ t + 1) :
    ∃ L, replS a f t y = (L, 0) ∧ validS L = true ∧ ∀ c, val L c = if f ≤ c ∧ c ≤ t then val y c else val a c := by
  obtain ⟨p1, p2⟩ := put_facts (valid_asc ha) hf hy he hft
  have hv : ∀ c, val (joinS (beforeS f a ++ y ++ afterS t a)) c = if f ≤ c ∧ c ≤ t then val y c else val a c := fun c => by rw [join_val p1, p2]
  have hlen : (joinS (beforeS f a ++ y ++ afterS t a)).length ≤ 200 := short_of_none (join_asc p1) 200 fun c hc => by
    rw [hv, if_neg (by omega), hn c (by omega)]
  refine ⟨joinS (beforeS f a ++ y ++ afterS t a), ?_, ?_, hv⟩
  · rw [replS, if_neg (by simp [ha]), if_neg (by omega), limS_ok (by omega)]
  · rw [validS, join_asc p1, decide_eq_true (by omega)]; rfl

theorem set_ok {a : List Sp} {f t v : Int} (ha : validS a = true) (hn : ∀ c, 60 ≤ c → val a c = none) (hf : 0 ≤ f) (hft : f ≤ t) (ht : t ≤ 150) :
    ∃ L, setS a f t v = (L, 0) ∧ validS L = true ∧ (∀ c, f ≤ c → c ≤ t → findS L c = (v, true)) ∧ ∀ c, ¬ (f ≤ c ∧ c ≤ t) → findS L c = findS a c := by
  obtain ⟨L, h1, h2, h3⟩ := put_ok (y := [(f, t, v)]) ha hn hf hft ht (by rw [asc_cons]; exact ⟨Int.le_refl _, hft, by simp only; omega, rfl⟩) (by simp only [ends]; omega)
  refine ⟨L, h1, h2, fun c h4 h5 => ?_, fun c h4 => ?_⟩
  · exact findS_some h2 (by rw [h3, if_pos ⟨h4, h5⟩, val_cons, if_pos ⟨h4, h5⟩])
  · rw [findS, findS, if_pos h2, if_pos ha, h3, if_neg h4]

theorem clear_ok {a : List Sp} {f t : Int} (ha : validS a = true) (hn : ∀ c, 60 ≤ c → val a c = none) (hf : 0 ≤ f) (hft : f ≤ t) (ht : t ≤ 150) :
    ∃ L, clearS a f t = (L, 0) ∧ validS L = true ∧ (∀ c, f ≤ c → c ≤ t → findS L c = (0, false)) ∧ ∀ c, ¬ (f ≤ c ∧ c ≤ t) → findS L c = findS a c := by
  obtain ⟨L, h1, h2, h3⟩ := put_ok (y := []) ha hn hf hft ht rfl (by simp only [ends]; omega)
  refine ⟨L, h1, h2, fun c h4 h5 => ?_, fun c h4 => ?_⟩
  · exact findS_none h2 (by rw [h3, if_pos ⟨h4, h5⟩]; rfl)
  · rw [findS, findS, if_pos h2, if_pos ha, h3, if_neg h4]

theorem over_ok2 {a b : List Sp} (ha : validS a = true) (hb : validS b = true) (hn : ∀ c, 60 ≤ c → val a c = none) (hm : ∀ c, 60 ≤ c → val b c = none) :
    ∃ L, overS a b = (L, 0) ∧ validS L = true ∧ (∀ c v, findS b c = (v, true) → findS L c = (v, true)) ∧ ∀ c v, findS b c = (v, false) → findS L c = findS a c := by
  obtain ⟨l1, l2⟩ := lay_facts (valid_asc ha) (valid_asc hb)
  have hv : ∀ c, val (joinS (layS a b)) c = (val b c).or (val a c) := fun c => by rw [join_val l1, l2]
  have hlen : (joinS (layS a b)).length ≤ 200 := short_of_none (join_asc l1) 200 fun c hc => by
    rw [hv, hn c (by omega), hm c (by omega)]; rfl
  have hV : validS (joinS (layS a b)) = true := by rw [validS, join_asc l1, decide_eq_true (by omega)]; rfl
  refine ⟨joinS (layS a b), ?_, hV, fun c v h => ?_, fun c v h => ?_⟩
  · rw [overS, if_pos ⟨ha, hb⟩, over_eq (valid_asc ha) (valid_asc hb), limS_ok (by omega)]
  · apply findS_some hV
    rw [findS, if_pos hb] at h
    rw [hv]
    cases hc : val b c with
    | none => rw [hc] at h; simp at h
    | some u => rw [hc] at h; simp at h; rw [h]; rfl
  · rw [findS, if_pos hb] at h
    rw [findS, findS, if_pos hV, if_pos ha, hv]
    cases hc : val b c with
    | none => rfl
    | some u => rw [hc] at h; simp at h

end Go.Proofs.Ytkapjihjbflliaa
