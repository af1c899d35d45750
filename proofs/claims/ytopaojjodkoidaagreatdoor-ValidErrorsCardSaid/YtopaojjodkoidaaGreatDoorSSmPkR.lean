/- Canonical order, plain mathematics: insertion, exchange of n -/
import Derived.Test.YtopaojjodkoidaaGreatDoorSSmPkB
import Derived.Test.YtopaojjodkoidaaGreatDoorSSmPkE
import Derived.Test.YtopaojjodkoidaaGreatDoorSSmPkC
import Derived.Test.YtopaojjodkoidaaGreatDoorSSmPkZZU
import Derived.Laws.CopyOwn
import Derived.Test.YtopaojjodkoidaaGreatDoorSSmPkG
import Derived.Laws.OwnMore
import Derived.StillTailTactics
set_option linter.unusedSimpArgs false
set_option linter.unusedVariables false
namespace Go.Proofs.YtopaojjodkoidaaGreatDoor
theorem take_snoc_any (l : List Int) (k : Nat) (h : k < l.length) : l.take (k + 1) = l.take k ++ [l.getD k 0] := by
 rw [List.take_succ_eq_append_getElem h]; simp [h]
theorem getD_left {α : Type} (a b : List α) (n : Nat) (d : α) (h : n < a.length) : (a ++ b).getD n d = a.getD n d := by
 simp only [List.getD_eq_getElem?_getD, List.getElem?_append_left h]
theorem getD_right {α : Type} (a b : List α) (n : Nat) (d : α) (h : a.length ≤ n) : (a ++ b).getD n d = b.getD (n - a.length) d := by
 simp only [List.getD_eq_getElem?_getD, List.getElem?_append_right h]
def insR (k : Int → Int) (x : Int) : List Int → List Int
 | [] => [x]
 | y :: r => if 0 < k x ∧ k x < k y then y :: insR k x r else x :: y :: r
def ordR (k : Int → Int) : List Int → List Int → List Int
 | acc, [] => acc
 | acc, x :: l => ordR k (insR k x acc) l
def ordS (k : Int → Int) (l : List Int) : List Int := (ordR k [] l).reverse
theorem ordR_append (k : Int → Int) (acc a b : List Int) : ordR k acc (a ++ b) = ordR k (ordR k acc a) b := by
 induction a generalizing acc with
 | nil => rfl
 | cons x r ih => exact ih _
theorem ordR_snoc (k : Int → Int) (acc a : List Int) (x : Int) : ordR k acc (a ++ [x]) = insR k x (ordR k acc a) := by rw [ordR_append]; rfl
theorem insR_comm (k : Int → Int) {x y : Int} (hy : 0 < k y) (hxy : k y < k x) (R : List Int) : insR k y (insR k x R) = insR k x (insR k y R) := by
 induction R with
 | nil =>
  have h1 : 0 < k y ∧ k y < k x := ⟨hy, hxy⟩
  have h2 : ¬ (0 < k x ∧ k x < k y) := by omega
  simp only [insR, if_pos h1, if_neg h2]
 | cons z r ih =>
  by_cases h1 : k x < k z
  ·have a1 : 0 < k x ∧ k x < k z := ⟨by omega, h1⟩
   have a2 : 0 < k y ∧ k y < k z := ⟨hy, by omega⟩
   rw [insR, if_pos a1, insR, if_pos a2, insR, if_pos a2, insR, if_pos a1, ih]
  ·by_cases h2 : k y < k z
   ·have a1 : ¬ (0 < k x ∧ k x < k z) := by omega
    have a2 : 0 < k y ∧ k y < k z := ⟨hy, by omega⟩
    have a3 : 0 < k y ∧ k y < k x := ⟨hy, hxy⟩
    rw [insR, if_neg a1, insR, if_pos a3, insR, if_pos a2, insR, if_neg a1]
   ·have a1 : ¬ (0 < k x ∧ k x < k z) := by omega
    have a2 : ¬ (0 < k y ∧ k y < k z) := by omega
    have a3 : 0 < k y ∧ k y < k x := ⟨hy, hxy⟩
    have a4 : ¬ (0 < k x ∧ k x < k y) := by omega
    rw [insR, if_neg a1, insR, if_pos a3, insR, if_neg a2, insR, if_neg a4]
theorem ordS_swap (k : Int → Int) (a b : List Int) {x y : Int} (hy : 0 < k y) (hxy : k y < k x) : ordS k (a ++ x :: y :: b) = ordS k (a ++ y :: x :: b) := by
 unfold ordS
 rw [ordR_append, ordR_append]
 simp only [ordR]
 rw [insR_comm k hy hxy]
theorem insR_perm (k : Int → Int) (x : Int) (R : List Int) : (insR k x R).Perm (x :: R) := by
 induction R with
 | nil => exact List.Perm.refl _
 | cons y r ih =>
  by_cases h : 0 < k x ∧ k x < k y
  ·rw [insR, if_pos h]; exact (List.Perm.cons y ih).trans (List.Perm.swap x y r)
  ·rw [insR, if_neg h]
theorem ordR_perm (k : Int → Int) (acc l : List Int) : (ordR k acc l).Perm (acc ++ l) := by
 induction l generalizing acc with
 | nil => simp [ordR]
 | cons x r ih =>
  refine (ih _).trans ?_
  refine ((insR_perm k x acc).append_right r).trans ?_
  rw [List.cons_append]
  exact (List.perm_middle (l₁ := acc) (l₂ := r) (a := x)).symm
theorem ordS_perm (k : Int → Int) (l : List Int) : (ordS k l).Perm l := by
 unfold ordS
 exact (List.reverse_perm _).trans (by simpa using ordR_perm k [] l)
theorem ordS_length (k : Int → Int) (l : List Int) : (ordS k l).length = l.length := (ordS_perm k l).length_eq
def inOrd (k : Int → Int) : List Int → Prop
 | x :: y :: r => ¬ (0 < k y ∧ k y < k x) ∧ inOrd k (y :: r)
 | _ => True
def inOrdR (k : Int → Int) : List Int → Prop
 | y :: x :: r => ¬ (0 < k y ∧ k y < k x) ∧ inOrdR k (x :: r)
 | _ => True
theorem insR_inOrd (k : Int → Int) (x : Int) (R : List Int) (h : inOrdR k R) : inOrdR k (insR k x R) := by
 induction R with
 | nil => trivial
 | cons y r ih =>
  by_cases hc : 0 < k x ∧ k x < k y
  ·rw [insR, if_pos hc]
   cases r with
   | nil => exact ⟨by omega, trivial⟩
   | cons z s =>
    have i2 := ih h.2
    by_cases hd : 0 < k x ∧ k x < k z
    ·rw [insR, if_pos hd] at i2 ⊢; exact ⟨h.1, i2⟩
    ·rw [insR, if_neg hd] at i2 ⊢; exact ⟨by omega, i2⟩
  ·rw [insR, if_neg hc]
   exact ⟨hc, h⟩
theorem ordR_inOrd (k : Int → Int) (acc l : List Int) (h : inOrdR k acc) : inOrdR k (ordR k acc l) := by
 induction l generalizing acc with
 | nil => exact h
 | cons x r ih => exact ih _ (insR_inOrd k x acc h)
theorem inOrd_snoc (k : Int → Int) (l : List Int) (y x : Int) : inOrd k (l ++ [x, y]) ↔ inOrd k (l ++ [x]) ∧ ¬ (0 < k y ∧ k y < k x) := by
 induction l with
 | nil => simp [inOrd]
 | cons a r ih =>
  cases r with
  | nil => simp only [List.cons_append, List.nil_append, inOrd]; constructor <;> (intro h; simp_all)
  | cons b s =>
   simp only [List.cons_append, inOrd] at ih ⊢
   rw [ih, and_assoc]
theorem inOrd_reverse (k : Int → Int) (R : List Int) : inOrd k R.reverse ↔ inOrdR k R := by
 induction R with
 | nil => simp [inOrd, inOrdR]
 | cons y r ih =>
  cases r with
  | nil => simp [inOrd, inOrdR]
  | cons x s =>
   have e : (y :: x :: s).reverse = s.reverse ++ [x, y] := by simp
   have e2 : (x :: s).reverse = s.reverse ++ [x] := by simp
   rw [e, inOrd_snoc, ← e2, ih]
   simp only [inOrdR]
   exact And.comm
theorem ordS_inOrd (k : Int → Int) (l : List Int) : inOrd k (ordS k l) := (inOrd_reverse k _).2 (ordR_inOrd k [] l trivial)
theorem ordR_id (k : Int → Int) (l acc : List Int) (h : inOrd k (acc.reverse ++ l)) : ordR k acc l = l.reverse ++ acc := by
 induction l generalizing acc with
 | nil => simp [ordR]
 | cons x r ih =>
  have e : insR k x acc = x :: acc := by
   cases acc with
   | nil => rfl
   | cons y s =>
    have hd : ¬ (0 < k x ∧ k x < k y) := by
     have e2 : (y :: s).reverse ++ x :: r = (s.reverse ++ [y, x]) ++ r := by simp
     rw [e2] at h
     have h2 : inOrd k (s.reverse ++ [y, x]) := by
      clear e2 ih
      generalize s.reverse ++ [y, x] = A at h
      induction A with
      | nil => trivial
      | cons a t iha =>
       cases t with
       | nil => trivial
       | cons b u => exact ⟨h.1, iha h.2⟩
     exact ((inOrd_snoc k _ _ _).1 h2).2
    rw [insR, if_neg hd]
  rw [ordR, e, ih (x :: acc) (by simpa using h)]
  simp
theorem ordS_id (k : Int → Int) (l : List Int) (h : inOrd k l) : ordS k l = l := by
 unfold ordS
 rw [ordR_id k l [] (by simpa using h)]
 simp
theorem ordS_id_iff (k : Int → Int) (l : List Int) : ordS k l = l ↔ inOrd k l := ⟨fun h => h ▸ ordS_inOrd k l, ordS_id k l⟩
def invs (k : Int → Int) : List Int → Nat
 | [] => 0
 | x :: r => r.countP (fun y => decide (0 < k y ∧ k y < k x)) + invs k r
theorem invs_swap (k : Int → Int) (a b : List Int) {x y : Int} (hy : 0 < k y) (hxy : k y < k x) : invs k (a ++ y :: x :: b) < invs k (a ++ x :: y :: b) := by
 induction a with
 | nil =>
  have h1 : (0 < k y ∧ k y < k x) := ⟨hy, hxy⟩
  have h2 : ¬ (0 < k x ∧ k x < k y) := by omega
  simp only [List.nil_append, invs, List.countP_cons, decide_eq_true h1, decide_eq_false h2]
  simp
  omega
 | cons z r ih =>
  simp only [List.cons_append, invs, List.countP_append, List.countP_cons]
  omega
def swp (l : List Int) (i : Nat) : List Int := (l.set i (l.getD (i + 1) 0)).set (i + 1) (l.getD i 0)
theorem swp_form (l : List Int) (i : Nat) (h : i + 1 < l.length) : ∃ a b, a.length = i ∧ l = a ++ l.getD i 0 :: l.getD (i + 1) 0 :: b ∧ swp l i = a ++ l.getD (i + 1) 0 :: l.getD i 0 :: b := by
 obtain ⟨x, hx⟩ : ∃ x, l.getD i 0 = x := ⟨_, rfl⟩
 obtain ⟨y, hy⟩ : ∃ y, l.getD (i + 1) 0 = y := ⟨_, rfl⟩
 have e : l = l.take i ++ x :: y :: l.drop (i + 2) := by
  have h1 : i < l.length := by omega
  have e1 : l[i] = x := by rw [← hx]; simp [h1]
  have e2 : l[i + 1] = y := by rw [← hy]; simp [h]
  conv => lhs; rw [← List.take_append_drop i l, List.drop_eq_getElem_cons h1, List.drop_eq_getElem_cons h, e1, e2]
 refine ⟨l.take i, l.drop (i + 2), by simp; omega, by rw [hx, hy]; exact e, ?_⟩
 have hl : (l.take i).length = i := by simp; omega
 unfold swp
 rw [hx, hy]
 generalize l.drop (i + 2) = D at e
 generalize l.take i = A at e hl
 subst e
 subst hl
 rw [List.set_append_right _ _ (Nat.le_refl _), List.set_append_right _ _ (by omega)]
 simp
theorem swp_length (l : List Int) (i : Nat) : (swp l i).length = l.length := by simp [swp]
theorem swp_ord (k : Int → Int) (l : List Int) (i : Nat) (h : i + 1 < l.length) (h0 : 0 < k (l.getD (i + 1) 0)) (h1 : k (l.getD (i + 1) 0) < k (l.getD i 0)) : ordS k (swp l i) = ordS k l ∧ invs k (swp l i) < invs k l := by
 obtain ⟨a, b, ha, e1, e2⟩ := swp_form l i h
 rw [e2]
 generalize l.getD i 0 = x at *
 generalize l.getD (i + 1) 0 = y at *
 rw [e1]
 exact ⟨(ordS_swap k a b h0 h1).symm, invs_swap k a b h0 h1⟩
theorem inOrd_iff (k : Int → Int) (l : List Int) : inOrd k l ↔ ∀ i, i + 1 < l.length → ¬ (0 < k (l.getD (i + 1) 0) ∧ k (l.getD (i + 1) 0) < k (l.getD i 0)) := by
 induction l with
 | nil => simp [inOrd]
 | cons x r ih =>
  cases r with
  | nil => simp [inOrd]
  | cons y s =>
   simp only [inOrd, ih]
   constructor
   ·rintro ⟨h1, h2⟩ i hi
    cases i with
    | zero => simpa using h1
    | succ j => have := h2 j (by simpa using hi); simpa using this
   ·intro h
    refine ⟨by have := h 0 (by simp); simpa using this, fun i hi => ?_⟩
    have := h (i + 1) (by simpa using hi)
    simpa using this
def plc (ks : List Int) (c : Int) : Nat → Nat
 | 0 => 0
 | n + 1 => if 0 < c ∧ c < ks.getD n 0 then plc ks c n else n + 1
theorem plc_le (ks : List Int) (c : Int) (n : Nat) : plc ks c n ≤ n := by
 induction n with
 | zero => exact Nat.le_refl _
 | succ m ih => unfold plc; split <;> omega
theorem plc_append (ks js : List Int) (c : Int) (n : Nat) (h : n ≤ ks.length) : plc (ks ++ js) c n = plc ks c n := by
 induction n with
 | zero => rfl
 | succ m ih =>
  unfold plc
  rw [getD_left _ _ _ _ (by omega), ih (by omega)]
theorem insR_plc (k : Int → Int) (x : Int) (R : List Int) : (insR k x R).reverse = R.reverse.take (plc (R.reverse.map k) (k x) R.length) ++ x :: R.reverse.drop (plc (R.reverse.map k) (k x) R.length) := by
 induction R with
 | nil => rfl
 | cons y r ih =>
  have e : ((y :: r).reverse.map k) = r.reverse.map k ++ [k y] := by simp
  have eg : (r.reverse.map k ++ [k y]).getD r.length 0 = k y := by
   rw [getD_right _ _ _ _ (by simp)]; simp
  rw [e, List.length_cons]
  unfold plc
  rw [eg]
  by_cases h : 0 < k x ∧ k x < k y
  ·rw [insR, if_pos h, if_pos h, plc_append _ _ _ _ (by simp)]
   rw [List.reverse_cons, ih, List.reverse_cons]
   have hp := plc_le (r.reverse.map k) (k x) r.length
   generalize plc (r.reverse.map k) (k x) r.length = p at *
   rw [List.take_append_of_le_length (by simp; omega), List.drop_append_of_le_length (by simp; omega)]
   simp
  ·rw [insR, if_neg h, if_neg h]
   have e2 : (y :: r).reverse.length = r.length + 1 := by simp
   rw [List.take_of_length_le (by omega), List.drop_eq_nil_of_le (by omega)]
   simp
def mvb (l : List Int) (f t : Nat) : List Int := l.take t ++ l.getD f 0 :: ((l.drop t).take (f - t) ++ l.drop (f + 1))
theorem mvb_map (k : Int → Int) (l : List Int) (f t : Nat) (hf : f < l.length) : (mvb l f t).map k = mvb (l.map k) f t := by
 have e : (l.map k).getD f 0 = k (l.getD f 0) := by simp [List.getD, List.getElem?_eq_getElem hf]
 unfold mvb
 rw [e]
 simp [List.map_take, List.map_drop]
def ordAt (k : Int → Int) (l : List Int) (i : Nat) : List Int := ordS k (l.take i) ++ l.drop i
theorem ordAt_zero (k : Int → Int) (l : List Int) : ordAt k l 0 = l := by simp [ordAt, ordS, ordR]
theorem ordAt_end (k : Int → Int) (l : List Int) : ordAt k l l.length = ordS k l := by simp [ordAt]
theorem ordAt_length (k : Int → Int) (l : List Int) (i : Nat) : (ordAt k l i).length = l.length := by
 unfold ordAt
 rw [List.length_append, ordS_length, List.length_take, List.length_drop]
 omega
theorem ordAt_step (k : Int → Int) (l : List Int) (i : Nat) (hi : i < l.length) :
 mvb (ordAt k l i) i (plc ((ordAt k l i).map k) (k ((ordAt k l i).getD i 0)) i) = ordAt k l (i + 1) := by
 have hl : (ordS k (l.take i)).length = i := by rw [ordS_length]; simp; omega
 have e1 : (ordAt k l i).getD i 0 = l.getD i 0 := by
  unfold ordAt
  rw [getD_right _ _ _ _ (by omega), hl]
  simp
 have ed : l.drop i = l.getD i 0 :: l.drop (i + 1) := by
  have : l.getD i 0 = l[i] := by simp [hi]
  rw [this, ← List.drop_eq_getElem_cons hi]
 have et : l.take (i + 1) = l.take i ++ [l.getD i 0] := take_snoc_any l i hi
 rw [e1]
 unfold ordAt
 rw [et]
 generalize hx : l.getD i 0 = x at *
 rw [ed]
 unfold ordS at hl ⊢
 rw [ordR_snoc, insR_plc]
 have hRl : (ordR k [] (l.take i)).length = i := by simpa using hl
 generalize ordR k [] (l.take i) = R at *
 rw [List.map_append, plc_append _ _ _ _ (by simp [hRl]), hRl]
 have hp := plc_le (R.reverse.map k) (k x) i
 generalize plc (R.reverse.map k) (k x) i = p at *
 unfold mvb
 rw [getD_right _ _ _ _ (by omega), hl]
 rw [List.take_append_of_le_length (by omega), List.drop_append_of_le_length (by omega)]
 have e3 : (R.reverse ++ x :: l.drop (i + 1)).drop (i + 1) = l.drop (i + 1) := by
  rw [List.drop_append, List.drop_eq_nil_of_le (by omega), hl]
  simp
 rw [e3]
 have e4 : (R.reverse.drop p ++ x :: l.drop (i + 1)).take (i - p) = R.reverse.drop p := by
  rw [List.take_append_of_le_length (by simp [hRl]), List.take_of_length_le (by simp [hRl])]
 rw [e4]
 simp
def openA (bs : List Bool) (i : Nat) : Bool := bs.getD i false
def openB (bs : List Bool) : Nat → Bool
 | 0 => false
 | i + 1 => openA bs i
def edgeA (bs : List Bool) (i : Nat) : Bool := openB bs i != openA bs i
def edgesN (bs : List Bool) : Nat → List Int
 | 0 => []
 | n + 1 => edgesN bs n ++ if edgeA bs n then [(n : Int)] else []
theorem edges_succ (bs : List Bool) (n : Nat) : edgesN bs (n + 1) = edgesN bs n ++ if edgeA bs n then [(n : Int)] else [] := rfl
def runsS (bs : List Bool) : List Int := edgesN bs (bs.length + 1)
theorem edges_odd (bs : List Bool) (n : Nat) : (edgesN bs n).length % 2 = if openB bs n then 1 else 0 := by
 induction n with
 | zero => rfl
 | succ m ih =>
  rw [edges_succ]; unfold edgeA
  rw [List.length_append]
  show _ = if openA bs m = true then 1 else 0
  cases h1 : openB bs m <;> cases h2 : openA bs m <;> simp [h1] at ih ⊢ <;> omega
theorem edges_len (bs : List Bool) (n : Nat) : (edgesN bs n).length ≤ n := by
 induction n with
 | zero => simp [edgesN]
 | succ m ih => rw [edges_succ]; split <;> simp <;> omega
theorem openB_end (bs : List Bool) : openA bs bs.length = false := by simp [openA]
theorem edges_still (bs : List Bool) (i j : Nat) (hij : i ≤ j) (h : ∀ m, i ≤ m → m < j → edgeA bs m = false) : edgesN bs j = edgesN bs i := by
 induction j with
 | zero => have : i = 0 := by omega
           subst this; rfl
 | succ m ih =>
  by_cases e : i = m + 1
  ·subst e; rfl
  ·rw [edges_succ, h m (by omega) (by omega), ih (by omega) (fun x h1 h2 => h x h1 (by omega))]
   simp
theorem edges_run (bs : List Bool) (i k : Nat) (hik : i < k) (h0 : openB bs i = false) (h1 : ∀ m, i ≤ m → m < k → openA bs m = true) (h2 : openA bs k = false) : edgesN bs (k + 1) = edgesN bs i ++ [(i : Int), (k : Int)] := by
 have hb : ∀ m, i < m → m ≤ k → openB bs m = true := by
  intro m a b
  cases m with
  | zero => omega
  | succ n => exact h1 n (by omega) (by omega)
 have e1 : edgesN bs (i + 1) = edgesN bs i ++ [(i : Int)] := by
  rw [edges_succ]
  have : edgeA bs i = true := by unfold edgeA; rw [h0, h1 i (Nat.le_refl _) hik]; rfl
  rw [this]; rfl
 have e2 : edgesN bs k = edgesN bs (i + 1) := edges_still bs (i + 1) k (by omega) (fun m a b => by unfold edgeA; rw [hb m (by omega) (by omega), h1 m (by omega) b]; rfl)
 rw [edges_succ]
 have : edgeA bs k = true := by unfold edgeA; rw [hb k hik (Nat.le_refl _), h2]; rfl
 rw [this, e2, e1]
 simp
open Go.RowKit
def accE (T : Tb) (l : List Int) : Int := if checkT T ≠ 0 then 2 else if 4096 < l.length then 7 else if l.all scaB then 0 else 3
def clsL (T : Tb) (l : List Int) : List Int := if accE T l = 0 then l.map (clsT T) else []
theorem accE_ok {T : Tb} {l : List Int} (h : accE T l = 0) : checkT T = 0 ∧ l.length ≤ 4096 ∧ l.all scaB = true := by
 unfold accE at h
 split at h
 ·cases h
 ·split at h
  ·cases h
  ·split at h
   ·exact ⟨by omega, by omega, by assumption⟩
   ·cases h
theorem accE_table {T : Tb} {l : List Int} (h : checkT T ≠ 0) : accE T l = 2 := by unfold accE; rw [if_pos h]
theorem accE_full {T : Tb} {l : List Int} (h : checkT T = 0) (hl : 4096 < l.length) : accE T l = 7 := by unfold accE; rw [if_neg (by omega), if_pos hl]
theorem accE_range {T : Tb} {l : List Int} (h : checkT T = 0) (hl : l.length ≤ 4096) (ha : l.all scaB = false) : accE T l = 3 := by unfold accE; rw [if_neg (by omega), if_neg (by omega), ha]; rfl
theorem accE_zero {T : Tb} {l : List Int} (h : checkT T = 0) (hl : l.length ≤ 4096) (ha : l.all scaB = true) : accE T l = 0 := by unfold accE; rw [if_neg (by omega), if_neg (by omega), ha]; rfl
theorem check_asc {T : Tb} (h : checkT T = 0) : ascB 0 T.cls = true ∧ r3 T = true := by
 unfold checkT at h
 cases h1 : r1 T with
 | false => rw [h1] at h; simp at h
 | true =>
  cases h2 : r2 T with
  | false => rw [h1, h2] at h; simp at h
  | true =>
   cases h3 : r3 T with
   | false => rw [h1, h2, h3] at h; simp at h
   | true => exact ⟨(r2_sp h2).2.1, rfl⟩
def LRet (L : List Int) (E : Int) (w : World) (e : Ending) (w' : World) : Prop :=
 ∃ v, e = .returned (.tuple #[v, .int .i64 E]) ∧ Ints w' w.heap.size v L ∧ Below w.heap.size w w'
theorem all_at {l : List Int} {q : Int → Bool} {k : Nat} (hk : k < l.length) (h : (l.take k).all q = true) : (l.take (k + 1)).all q = q (l.getD k 0) := by
 rw [take_snoc_any l k hk, List.all_append, h]; simp
theorem all_no {l : List Int} {q : Int → Bool} (k : Nat) (h : (l.take k).all q = false) : l.all q = false := by
 rw [← List.take_append_drop k l, List.all_append, h]; rfl
theorem BoxT.row {w w' : World} {g : Nat} {x : TV} {row : Option Nat} (h : BoxT w g x) (hg : w.grownBy w' row) (hr : ∀ k, row = some k → g < k) : BoxT w' g x := by
 obtain ⟨⟨h0, h1, h2, h3, h4, h5⟩, ⟨h6, h7, h8, h9, h10, h11⟩⟩ := h
 have key : ∀ i v, w.cell? ⟨g, i, none⟩ = some v → w'.cell? ⟨g, i, none⟩ = some v := fun i v hc => hg.cell hc (fun e => by have := hr g e.symm; omega)
 exact ⟨⟨key _ _ h0, key _ _ h1, key _ _ h2, key _ _ h3, key _ _ h4, key _ _ h5⟩, ⟨key _ _ h6, key _ _ h7, key _ _ h8, key _ _ h9, key _ _ h10, key _ _ h11⟩⟩
theorem Env.app {w0 w w' : World} {x : TV} {T : Tb} {v : Value} {l : List Int} (e : Env w0 x T w) (hx : TabV w0 x T) (ho : Ints w (w0.heap.size + 1) v l) (hg : w.grownBy w' v.ownBlock) : Env w0 x T w' := by
 have hb : Below w0.heap.size w0 w' := below_appI e.bel (ho.mono (Nat.le_succ _)) (Nat.le_refl _) hg
 exact ⟨hx.below hb, e.box.row hg (fun k hk => ho.base k hk), hb⟩
theorem isOpen_any (p : Option Addr) (n c : Nat) (B : Bool) (w : World) (hB : Hid (decide (n % 2 = 1) = B)) (hn : n ≤ 17592186043904) :
 Calls Tryz.prog 80 #[.slice p n c] w fun e w' => e = .returned (.bool B) ∧ w = w' := by
 have h1 : ((n : Int)).tmod 2 = ((n % 2 : Nat) : Int) := by rw [Int.tmod_eq_emod_of_nonneg (by omega)]; omega
 have h3 : ((n : Int)) % 2 = ((n % 2 : Nat) : Int) := by omega
 have h2 : ((((n % 2 : Nat) : Int)) == 1) = B := by rw [← hB.out, Bool.eq_iff_iff]; simp; omega
 generalize n % 2 = m at h1 h2 h3
 clear hB
 go_enter Tryz.func80, Tryz.ntmps80
 go_wp2
 go_ret
 exact ⟨rfl, rfl⟩
set_option maxRecDepth 100000 in
set_option maxHeartbeats 4000000 in
theorem classesOf_at (x : TV) (T : Tb) (p : Option Addr) (cap : Nat) (zs : List Int) (E : Int) (L : List Int) (w : World) (hx : TabV w x T) (hr : Rsv w) (hin : IntsIn w p zs) (hl : zs.length ≤ 17592186043904)
 (hE : Hid (accE T zs = E)) (hL : Hid (clsL T zs = L)) :
 Calls Tryz.prog 79 #[x.agg, .slice p zs.length cap] w (LRet L E w) := by
 obtain ⟨V, hV⟩ : ∃ V, Hid (checkT T = V) := ⟨_, rfl⟩
 have HE := Lib.hid (Env.new hx)
 have HX := Lib.hid hx
 have HI := Lib.hid hin
 have HR := Lib.hid hr
 obtain ⟨n, hn⟩ : ∃ n, zs.length = n := ⟨_, rfl⟩
 rw [hn] at hl ⊢
 have HN := Lib.hid hn
 clear hx hr hin hn
 simp only [TV.agg]
 go_enter Tryz.func79, Tryz.ntmps79
 obtain ⟨⟨k0, k1, k2, k3, k4, k5⟩, ⟨k6, k7, k8, k9, k10, k11⟩⟩ := HE.out.box.load
 go_wp2_with fail
 refine (check_tab_at x T V _ HE.out.tab (HR.out.below HE.out.bel) hV).mono ?_
 rintro e w1 ⟨rfl, hb1⟩
 have HZ : Hid (w.heap.size + 1 ≤ w1.heap.size) := by have := hb1.size; unfold Hid; simpa using this
 replace HE := Lib.hid (HE.out.step hb1)
 clear hb1 k0 k1 k2 k3 k4 k5 k6 k7 k8 k9 k10 k11
 by_cases h0 : V = 0
 ·have d0 : (V != 0) = false := by simp [h0]
  have HV : Hid (checkT T = 0) := hV.out.trans h0
  by_cases hbig : 4096 < n
  ·have d1 : decide ((4096 : Int) < (n : Int)) = true := decide_eq_true (by omega)
   have HEE : Hid (E = 7) := by unfold Hid; rw [← hE.out]; exact accE_full HV.out (by rw [HN.out]; exact hbig)
   have HLL : Hid (L = []) := by unfold Hid; rw [← hL.out]; unfold clsL; rw [hE.out, HEE.out]; rfl
   clear h0 hbig
   go_wp2
   go_ret2
   rw [HEE.out, HLL.out]
   exact ⟨_, rfl, Ints.nil _ _, HE.out.bel⟩
  ·have d1 : decide ((4096 : Int) < (n : Int)) = false := decide_eq_false (by omega)
   have d2 : ¬ (4096 < n) := hbig
   have hn4 : n ≤ 4096 := by omega
   have hmk := run_make_ints0 n (by omega)
   clear h0 hbig
   go_wp2
   go_loopw [6, 8, 22] (fun v _ i wr => ∃ k : Nat, k ≤ n ∧ i = .int .i64 k ∧ Hid ((zs.take k).all scaB = true) ∧ Hid (Ints wr (w.heap.size + 1) v ((zs.take k).map (clsT T))) ∧ Hid (Env w x T wr) ∧ Hid (w1.heap.size ≤ wr.heap.size)) (fun _ _ i _ => n - (intOf i).toNat)
   case atStart => exact ⟨0, Nat.zero_le _, rfl, rfl, Ints.made w1 (w.heap.size + 1) n HZ.out (by omega), HE.out.step ((Below.refl _ _).alloc (Nat.le_refl _) _), by simp [Hid]⟩
   case round =>
    obtain ⟨k, hk, rfl, hall, ho, he, HH⟩ := hrel
    by_cases hlt : k < n
    ·have hkl : k < zs.length := by rw [HN.out]; exact hlt
     obtain ⟨b, off, rfl, hck⟩ := (HI.out.below he.out.bel) k hkl
     obtain ⟨c, hc⟩ : ∃ c, zs.getD k 0 = c := ⟨_, rfl⟩
     have hs1 := all_at hkl hall.out
     have hs2 := take_snoc_any zs k hkl
     rw [hc] at hck hs1 hs2
     have HS1 := Lib.hid hs1
     have HS2 := Lib.hid hs2
     have HLK : Hid (((zs.take k).map (clsT T)).length ≤ 4096) := by unfold Hid; simp; omega
     obtain ⟨z, hz⟩ : ∃ z, Hid (clsT T c = z) := ⟨_, rfl⟩
     clear hc hs1 hs2
     go_wp2_with fail
     refine (len_any c _).mono ?_
     rintro e w2 ⟨m, rfl, hm, rfl⟩
     by_cases hm0 : m = 0
     ·have d3 : (m == 0) = true := by simp [hm0]
      have HEE : Hid (E = 3) := by unfold Hid; rw [← hE.out]; exact accE_range HV.out (by rw [HN.out]; exact hn4) (all_no (k + 1) (by rw [HS1.out]; exact hm.1 hm0))
      have HLL : Hid (L = []) := by unfold Hid; rw [← hL.out]; unfold clsL; rw [hE.out, HEE.out]; rfl
      clear hm hm0
      go_wp2
      go_ret2
      rw [HEE.out, HLL.out]
      exact ⟨_, rfl, Ints.nil _ _, he.out.bel⟩
     ·have d3 : (m == 0) = false := by simp [hm0]
      have hsc : scaB c = true := by
       cases hb : scaB c with
       | true => rfl
       | false => exact absurd (hm.2 hb) hm0
      have HAL : Hid ((zs.take (k + 1)).all scaB = true) := by unfold Hid; rw [HS1.out]; exact hsc
      obtain ⟨⟨k0, k1, k2, k3, k4, k5⟩, ⟨k6, k7, k8, k9, k10, k11⟩⟩ := he.out.box.load
      clear hm hm0 hsc
      go_wp2_with fail
      refine (class_at x T c z _ he.out.tab (check_asc HV.out).1 hz).mono ?_
      rintro e w2 ⟨rfl, hb2⟩
      have HE2 := Lib.hid (he.out.step hb2)
      have HO2 := Lib.hid (ho.out.below hb2)
      have hbz : w.heap.size + 1 ≤ w2.heap.size := Nat.le_trans HZ.out (Nat.le_trans HH.out hb2.size)
      have HS := Lib.hid hb2.size
      clear hb2 k0 k1 k2 k3 k4 k5 k6 k7 k8 k9 k10 k11
      go_wp2_with (at_builtin; (refine wpList_append_int (.tmp 29) (.tmp 33) rfl rfl (w.heap.size + 1) u6 ((zs.take k).map (clsT T)) rfl HO2.out z 1 _ rfl (by simp) (by have := HLK.out; omega) hbz ?_); intro v1 w3 ho1 hg1)
      have HO3 : Hid (Ints w3 (w.heap.size + 1) v1 ((zs.take (k + 1)).map (clsT T))) := by
       unfold Hid; rw [HS2.out, List.map_append, List.map_singleton, hz.out]; exact ho1
      have HE3 : Hid (Env w x T w3) := HE2.out.app HX.out HO2.out hg1
      have HH3 : Hid (w1.heap.size ≤ w3.heap.size) := Nat.le_trans HH.out (Nat.le_trans HS.out hg1.size)
      clear ho1 hg1 hbz
      go_wp2
      go_roundw
      case rel => exact ⟨k + 1, by omega, by go_num, HAL, HO3, HE3, HH3⟩
      case measure => simp [intOf]; omega
    ·obtain rfl : k = n := by omega
     have HEE : Hid (E = 0) := by
      unfold Hid; rw [← hE.out]
      exact accE_zero HV.out (by rw [HN.out]; exact hn4) (by have := hall.out; rwa [List.take_of_length_le (Nat.le_of_eq HN.out)] at this)
     have HLL : Hid (L = (zs.take k).map (clsT T)) := by
      unfold Hid; rw [← hL.out]; unfold clsL; rw [hE.out, HEE.out, if_pos rfl, List.take_of_length_le (Nat.le_of_eq HN.out)]
     go_wp2
     go_ret2
     rw [HEE.out, HLL.out]
     exact ⟨_, rfl, ho.out.mono (Nat.le_succ _), he.out.bel⟩
 ·have d0 : (V != 0) = true := by simp [h0]
  have HEE : Hid (E = 2) := by unfold Hid; rw [← hE.out]; exact accE_table (by rw [hV.out]; exact h0)
  have HLL : Hid (L = []) := by unfold Hid; rw [← hL.out]; unfold clsL; rw [hE.out, HEE.out]; rfl
  clear h0
  go_wp2
  go_ret2
  rw [HEE.out, HLL.out]
  exact ⟨_, rfl, Ints.nil _ _, HE.out.bel⟩
theorem plc_zero (ks : List Int) (i : Nat) : plc ks 0 i = i := by
 cases i with
 | zero => rfl
 | succ n => unfold plc; rw [if_neg (by omega)]
set_option maxHeartbeats 1000000 in
theorem placeOf_at (p : Option Addr) (n cap i P : Nat) (ks : List Int) (c : Int) (w : World) (hin : IntsIn w p ks) (hl : Hid (ks.length = n)) (hn : n ≤ 17592186043904) (hi : i < n) (hc : Hid (ks.getD i 0 = c)) (hc0 : 0 ≤ c) (hP : Hid (plc ks c i = P)) :
 Calls Tryz.prog 140 #[.slice p n cap, .int .i64 i] w fun e w' => e = .returned (.int .i64 P) ∧ w = w' := by
 have hkl : i < ks.length := by rw [hl.out]; exact hi
 obtain ⟨b, off, rfl, hck⟩ := hin i hkl
 rw [hc.out] at hck
 have HI := Lib.hid hin
 clear hin hkl
 by_cases h0 : c = 0
 ·subst h0
  have HP : Hid (P = i) := by unfold Hid; rw [← hP.out, plc_zero]
  go_enter Tryz.func140, Tryz.ntmps140
  go_wp2
  go_ret
  exact ⟨by rw [HP.out]; rfl, rfl⟩
 ·have d0 : (c == 0) = false := by simp [h0]
  have hpos : 0 < c := by omega
  clear h0 hc0
  go_enter Tryz.func140, Tryz.ntmps140
  go_wp2
  go_loopw [1] (fun v wr => ∃ k : Nat, k ≤ i ∧ v = .int .i64 k ∧ Hid (plc ks c k = P) ∧ w = wr) (fun v _ => (intOf v).toNat)
  case atStart => exact ⟨i, Nat.le_refl _, rfl, hP, rfl⟩
  case round =>
   obtain ⟨k, hk, rfl, hp, rfl⟩ := hrel
   by_cases hz : 0 < k
   ·obtain ⟨j, hj⟩ : ∃ j : Nat, k = j + 1 := ⟨k - 1, by omega⟩
    subst hj
    have hjl : j < ks.length := by rw [hl.out]; omega
    obtain ⟨b2, off2, e2, hcj⟩ := HI.out j hjl
    cases e2
    obtain ⟨y, hy⟩ : ∃ y, ks.getD j 0 = y := ⟨_, rfl⟩
    rw [hy] at hcj
    have HPS : Hid (plc ks c (j + 1) = if 0 < c ∧ c < y then plc ks c j else j + 1) := by
     unfold Hid; conv => lhs; unfold plc
     rw [hy]
    have hjn : j < n := by omega
    clear hjl
    by_cases hlt : c < y
    ·have d1 : decide (c < y) = true := decide_eq_true hlt
     have HPJ : Hid (plc ks c j = P) := by unfold Hid; rw [← hp.out, HPS.out, if_pos ⟨hpos, hlt⟩]
     clear hy
     go_wp2
     go_roundw
     case rel => exact ⟨j, by omega, by go_num, HPJ, trivial⟩
     case measure => simp [intOf]
    ·have d1 : decide (c < y) = false := decide_eq_false hlt
     have HPJ : Hid (P = j + 1) := by unfold Hid; rw [← hp.out, HPS.out, if_neg (fun h => hlt h.2)]
     clear hy
     go_wp2
     go_ret
     exact ⟨by rw [HPJ.out]; rfl, rfl⟩
   ·obtain rfl : k = 0 := by omega
    have HPJ : Hid (P = 0) := by unfold Hid; rw [← hp.out]; rfl
    go_wp2
    go_ret
    exact ⟨by rw [HPJ.out]; rfl, rfl⟩
def midL (xs : List Int) (f t : Nat) : List Int := xs.take (t + 1) ++ ((xs.drop t).take (f - t) ++ xs.drop (f + 1))
theorem midL_length (xs : List Int) (f t : Nat) (hf : f < xs.length) (ht : t ≤ f) : (midL xs f t).length = xs.length := by simp [midL]; omega
theorem midL_set (xs : List Int) (f t : Nat) (hf : f < xs.length) (ht : t ≤ f) : (midL xs f t).set t (xs.getD f 0) = mvb xs f t := by
 unfold midL mvb
 have hl : (xs.take t).length = t := by simp; omega
 rw [take_snoc_any xs t (by omega), List.append_assoc, List.set_append_right _ _ (by omega), hl]
 simp
theorem splice_mid (xs : List Int) (L : List Value) (f t : Nat) (hf : f < xs.length) (ht : t ≤ f) (hL : L.take xs.length = xs.map (.int .i64)) :
 (splice L (t + 1) (((xs.drop t).take (f - t)).map (.int .i64))).take xs.length = (midL xs f t).map (.int .i64) := by
 obtain ⟨R, hR⟩ : ∃ R, L = xs.map (.int .i64) ++ R := ⟨L.drop xs.length, by rw [← hL, List.take_append_drop]⟩
 subst hR
 unfold splice
 have hcl : (((xs.drop t).take (f - t)).map (Value.int .i64)).length = f - t := by simp; omega
 have hml : (xs.map (Value.int .i64)).length = xs.length := by simp
 rw [hcl, List.take_append_of_le_length (l₁ := xs.map (Value.int .i64)) (by omega), List.drop_append_of_le_length (l₁ := xs.map (Value.int .i64)) (by omega)]
 have e : (xs.map (Value.int .i64)).take (t + 1) ++ (((xs.drop t).take (f - t)).map (.int .i64) ++ ((xs.map (.int .i64)).drop (t + 1 + (f - t)) ++ R)) = (midL xs f t).map (.int .i64) ++ R := by
  unfold midL
  rw [show t + 1 + (f - t) = f + 1 by omega]
  simp [List.map_take, List.map_drop]
 rw [e, List.take_append_of_le_length (by simp [midL_length xs f t hf ht]), List.take_of_length_le (by simp [midL_length xs f t hf ht])]
theorem row_cells {w : World} {g : Nat} {cur : Array Value} {ty : TypeId} {xs : List Int} (hg : w.heap[g]? = some (.cells cur ty (0, 0))) (ht : cur.toList.take xs.length = xs.map (.int .i64)) (k : Nat) (hk : k < xs.length) :
 w.cell? ⟨g, k, none⟩ = some (.int .i64 (xs.getD k 0)) := by
 rw [cell_of_row w g k cur _ (0, 0) hg]
 have e : (cur.toList.take xs.length)[k]? = (xs.map (Value.int .i64))[k]? := by rw [ht]
 rw [List.getElem?_take, if_pos (by omega)] at e
 simpa [List.getD, List.getElem?_eq_getElem hk] using e
theorem add_two (g a j : Nat) : (⟨g, a, none⟩ : Addr).add j = ⟨g, a + j, none⟩ := by unfold Addr.add; split <;> simp_all
theorem cs_cells {w : World} {g : Nat} {xs : List Int} {f t : Nat} (hf : f < xs.length) (hc : ∀ k, k < xs.length → w.cell? ⟨g, k, none⟩ = some (.int .i64 (xs.getD k 0))) :
 ∀ (j : Nat) (u : Value), (((xs.drop t).take (f - t)).map (Value.int .i64))[j]? = some u → w.cell? ((⟨g, t, none⟩ : Addr).add j) = some u := by
 intro j u hu
 rw [add_two]
 rw [List.getElem?_map] at hu
 cases hj : ((xs.drop t).take (f - t))[j]? with
 | none => rw [hj] at hu; cases hu
 | some y =>
  rw [hj] at hu
  simp only [Option.map_some, Option.some.injEq] at hu
  rw [List.getElem?_take] at hj
  split at hj
  ·rw [List.getElem?_drop] at hj
   obtain ⟨h1, h2⟩ := List.getElem?_eq_some_iff.1 hj
   rw [hc (t + j) h1, ← hu]
   simp [List.getD, List.getElem?_eq_getElem h1, h2]
  ·cases hj
theorem one_ints (l : List Int) : ∀ v ∈ l.map (Value.int .i64), v.oneCell' = true := by
 intro v hv
 obtain ⟨z, _, rfl⟩ := List.mem_map.1 hv
 rfl
theorem step_copy_ints {ops : Array Oper} {o : Oper} {a : Act} {w : World} {K : Act → World → Prop} {Z : Exit → Act → World → Prop} {E : Prop} (hgd : o.guard = none) (d s : Operand)
 (ho : o.op = .call { callee := .builtin .copy, args := #[d, s], argTypes := #[22, 22] })
 (dp sp : Option Addr) (dLen dCap sLen sCap : Nat) (hd : a.eval d = .slice dp dLen dCap) (hs : a.eval s = .slice sp sLen sCap)
 (g off : Nat) (cur : List Value) (hg : w.heap[g]? = some (.cells cur.toArray 3 (0, 0))) (cs : List Value) (hn : cs.length = Nat.min sLen dLen)
 (hpos : 0 < cs.length → dp = some ⟨g, off, none⟩ ∧ ∃ ad, sp = some ad ∧ ∀ j v, cs[j]? = some v → w.cell? (ad.add j) = some v)
 (hfit : off + cs.length ≤ cur.length) (h1 : ∀ v ∈ cs, v.oneCell' = true) (B : Nat) (hBg : B ≤ g)
 (h : ∀ w', Hid (w'.heap[g]? = some (.cells (splice cur off cs).toArray 3 (0, 0))) → w.grownBy w' (some g) → K (a.put o.dst (goInt cs.length)) w') :
 if Region.wanted o (yielded ops a.tmps) = true then Oper.wp Tryz.prog o a w K Z else E := by
 have hw : Region.wanted o (yielded ops a.tmps) = true := by simp [Region.wanted, hgd]
 rw [if_pos hw]
 obtain ⟨i0, hi, hz0, hz1, hz2⟩ := info_parts Tryz.info3
 have hsz : (Tryz.prog.info? 3).map (·.size) = some 1 := by rw [hi]; simp [hz1]
 by_cases h0 : cs.length = 0
 ·obtain rfl : cs = [] := List.eq_nil_of_length_eq_zero h0
  have hrun := run_copy_none (P := Tryz.prog) w 22 22 o.type 3 dp sp dLen dCap sLen sCap Tryz.underlying22 hsz (by simpa using hn.symm)
  unfold Oper.wp
  simp [execOp, ho, resolve, invoke, builtin, hd, hs, hrun, Result.andThen]
  exact h w (show _ = _ by simpa [splice] using hg) (grownBy_refl _ _)
 ·obtain ⟨rfl, ad, rfl, hsrc⟩ := hpos (by omega)
  have hrun := run_copy_row (P := Tryz.prog) w 22 22 o.type 3 g off dLen dCap ad sLen sCap cur.toArray 3 cs Tryz.underlying22 hsz hg hn hsrc (by simpa using hfit) h1
  unfold Oper.wp
  simp [execOp, ho, resolve, invoke, builtin, hd, hs, hrun, Result.andThen]
  exact h _ (show _ = _ by simpa [splice] using setRow_heap w g _ _ 3 _ hg) ⟨rfl, rfl, rfl, by simp [World.setRow], fun k _ hne => setRow_other w g k _ (fun e => hne (by rw [e]))⟩
theorem wpList_copy_ints {ops : Array Oper} {rest : List Oper} {o : Oper} {a : Act} {w : World} {Q : Exit → Act → World → Prop} (hgd : o.guard = none) (d s : Operand)
 (ho : o.op = .call { callee := .builtin .copy, args := #[d, s], argTypes := #[22, 22] })
 (dp sp : Option Addr) (dLen dCap sLen sCap : Nat) (hd : a.eval d = .slice dp dLen dCap) (hs : a.eval s = .slice sp sLen sCap)
 (g off : Nat) (cur : List Value) (hg : w.heap[g]? = some (.cells cur.toArray 3 (0, 0))) (cs : List Value) (hn : cs.length = Nat.min sLen dLen)
 (hpos : 0 < cs.length → dp = some ⟨g, off, none⟩ ∧ ∃ ad, sp = some ad ∧ ∀ j v, cs[j]? = some v → w.cell? (ad.add j) = some v)
 (hfit : off + cs.length ≤ cur.length) (h1 : ∀ v ∈ cs, v.oneCell' = true) (B : Nat) (hBg : B ≤ g)
 (h : ∀ w', Hid (w'.heap[g]? = some (.cells (splice cur off cs).toArray 3 (0, 0))) → w.grownBy w' (some g) → wpList Tryz.prog ops Q rest (a.put o.dst (goInt cs.length)) w') : wpList Tryz.prog ops Q (o :: rest) a w := by
 unfold wpList
 have hw : Region.wanted o (yielded ops a.tmps) = true := by simp [Region.wanted, hgd]
 rw [if_pos hw]
 refine .inl ?_
 have := step_copy_ints (ops := ops) (o := o) (a := a) (w := w) (K := fun a' w' => wpList Tryz.prog ops Q rest a' w') (Z := Q) (E := True) hgd d s ho dp sp dLen dCap sLen sCap hd hs g off cur hg cs hn hpos hfit h1 B hBg h
 rwa [if_pos hw] at this
theorem mid_own {w : World} {B g n cap f t : Nat} {xs : List Int} {cur : Array Value} (hg : w.heap[g]? = some (.cells (splice cur.toList (t + 1) (((xs.drop t).take (f - t)).map (.int .i64))).toArray 3 (0, 0)))
 (hn : xs.length = n) (hB : B ≤ g) (hc : n ≤ cap) (hm : cap ≤ maxLen) (hs : cur.size = cap) (hf : f < n) (ht : t ≤ f) (hk : cur.toList.take n = xs.map (.int .i64)) :
 Ints w B (.slice (some ⟨g, 0, none⟩) n cap) (midL xs f t) := by
 subst hn
 unfold Ints
 rw [midL_length xs f t hf ht]
 refine ⟨by simp [midL_length xs f t hf ht], .inr ⟨g, cap, _, rfl, hB, hg, hc, hm, ?_, ?_⟩⟩
 ·rw [List.size_toArray, length_splice _ _ _ (by simp; omega)]; simp; omega
 ·rw [Nat.mul_one, List.toList_toArray]
  exact splice_mid xs cur.toList f t hf ht hk
set_option maxRecDepth 100000 in
set_option maxHeartbeats 4000000 in
theorem moveBack_any (B : Nat) (v : Value) (xs ys : List Int) (f t : Nat) (w : World) (ho : Ints w B v xs) (hf : f < xs.length) (ht : t ≤ f) (hl : xs.length ≤ 4194304) (hy : Hid (mvb xs f t = ys)) :
 Calls Tryz.prog 141 #[v, .int .i64 f, .int .i64 t] w fun e w' => e = .returned (.tuple #[]) ∧ Ints w' B v ys ∧ w.grownBy w' v.ownBlock := by
 obtain ⟨h1, h2⟩ := ho
 rcases h2 with ⟨rfl, h3⟩ | ⟨g, cap, cur, rfl, hB, hg, hn, hc, hs, htk⟩
 ·omega
 ·rw [Nat.mul_one] at htk hs
  have hcl := fun k hk => row_cells hg htk k hk
  have c1 := hcl f hf
  obtain ⟨X, hX⟩ : ∃ X, xs.getD f 0 = X := ⟨_, rfl⟩
  rw [hX] at c1
  obtain ⟨cs, hcs⟩ : ∃ cs, ((xs.drop t).take (f - t)).map (Value.int .i64) = cs := ⟨_, rfl⟩
  have hsrc := cs_cells (t := t) hf hcl
  have hone := one_ints ((xs.drop t).take (f - t))
  have hlen : (((xs.drop t).take (f - t)).map (Value.int .i64)).length = f - t := by simp; omega
  rw [hcs] at hsrc hone hlen
  have HCS := Lib.hid hcs
  have HSRC := Lib.hid hsrc
  have HONE := Lib.hid hone
  have HLEN := Lib.hid hlen
  have HX := Lib.hid hX
  have HG : Hid (w.heap[g]? = some (.cells cur.toList.toArray 3 (0, 0))) := by simpa [Hid] using hg
  have HT := Lib.hid htk
  have HS := Lib.hid hs
  obtain ⟨n, hnn⟩ : ∃ n, xs.length = n := ⟨_, rfl⟩
  rw [hnn] at hn hf hl ⊢
  have HN := Lib.hid hnn
  obtain ⟨t1, ht1⟩ : ∃ t1, t + 1 = t1 := ⟨_, rfl⟩
  obtain ⟨f1, hf1⟩ : ∃ f1, f + 1 = f1 := ⟨_, rfl⟩
  have w1 : IntKind.i64.wrap ((t : Int) + 1) = (t1 : Int) := by rw [IntWalk.i64_in _ (by omega)]; omega
  have w2 : IntKind.i64.wrap ((f : Int) + 1) = (f1 : Int) := by rw [IntWalk.i64_in _ (by omega)]; omega
  have q1 : t1 ≤ f1 := by omega
  have q2 : f1 ≤ cap := by omega
  have q3 : f ≤ cap := by omega
  have q4 : ¬ (cap = t) := by omega
  have HT1 := Lib.hid ht1
  have HF1 := Lib.hid hf1
  have q5 : max (f1 : Int) 0 = (f1 : Int) := by omega
  have q6 : max (f : Int) 0 = (f : Int) := by omega
  clear hcs hsrc hone hlen hX hcl h1 hg htk hs hnn ht1 hf1
  go_enter Tryz.func141, Tryz.ntmps141
  go_upto_region 1 with (fail)
  go_still_tail 10, (by kernel_rfl)
  refine wpList_copy_ints (by rfl) (.tmp 16) (.tmp 20) (by rfl) _ _ _ _ _ _ (by rfl) (by rfl) g t1 cur.toList (by exact HG.out) cs ?c1 ?c2 ?c3 HONE.out B hB ?_
  case c1 => rw [HLEN.out, ← HT1.out, ← HF1.out]; simp [Nat.min_def]
  case c2 =>
   intro hp
   rw [HLEN.out] at hp
   refine ⟨by rw [if_neg (by have := HT1.out; omega)], _, rfl, fun j u hu => ?_⟩
   exact HSRC.out j u hu
  case c3 => rw [HLEN.out, Array.length_toList, HS.out]; have := HT1.out; omega
  intro w4 hg4 hb4
  have hg5 : w4.heap[g]? = some (.cells (splice cur.toList (t + 1) (((xs.drop t).take (f - t)).map (.int .i64))).toArray 3 (0, 0)) := by rw [HCS.out, HT1.out]; exact hg4.out
  have HO4 : Hid (Ints w4 B (.slice (some ⟨g, 0, none⟩) n cap) (midL xs f t)) := mid_own hg5 HN.out hB hn hc HS.out hf ht (by rw [← HN.out]; exact HT.out)
  have hml : (midL xs f t).length = n := by rw [midL_length xs f t (by rw [HN.out]; exact hf) ht]; exact HN.out
  have hoo : w4.ownsRow B 3 1 (.slice (some ⟨g, 0, none⟩) n cap) n ((midL xs f t).map (.int .i64)) := by have := HO4.out; unfold Ints at this; rwa [hml] at this
  have hct := World.ownsRow.cellAt hoo t (by omega)
  rw [List.getElem?_map, List.getElem?_eq_getElem (by omega), Option.map_some] at hct
  generalize (midL xs f t)[t]'(by omega) = Y at hct
  have hft := World.ownsRow.frozenAt hoo t
  have hst := World.ownsRow.stored hoo t (.int .i64 X)
  have HST : Hid (Ints (w4.setCell ⟨g, t, none⟩ (.int .i64 X)) B (.slice (some ⟨g, 0, none⟩) n cap) ys) := by
   unfold Hid
   rw [← hy.out, ← midL_set xs f t (by rw [HN.out]; exact hf) ht, HX.out]
   unfold Ints
   rw [List.length_set, hml, List.map_set]
   exact hst.1
  have HGB : Hid (w.grownBy (w4.setCell ⟨g, t, none⟩ (.int .i64 X)) (some g)) := grownBy_trans (show w.grownBy w4 (some g) from ⟨hb4.os, hb4.tape, hb4.output, hb4.size, hb4.block⟩) (grownBy_store _ _ _ _)
  clear hg4 hb4 hg5 hoo hst hml hy
  generalize (if cap = t1 then some (⟨g, 0, none⟩ : Addr) else some ⟨g, t1, none⟩) = dp0
  go_wp2
  go_end0
  exact ⟨rfl, HST.out, HGB.out⟩
def ordL (T : Tb) (l : List Int) : List Int := if accE T l = 0 then ordS (clsT T) l else []
def opens (T : Tb) (l : List Int) : List Bool := l.map fun c => decide (clsT T c ≠ 0)
def runsL (T : Tb) (l : List Int) : List Int := if accE T l = 0 then runsS (opens T l) else []
structure OSt (w0 : World) (B1 B2 : Nat) (vC vO : Value) (C O : List Int) (w : World) : Prop where
 cls : Ints w B1 vC C
 ord : Ints w B2 vO O
 lo : ∀ b, vC.ownBlock = some b → b < B2
 bel : Below w0.heap.size w0 w
 h1 : w0.heap.size ≤ B1
 h2 : w0.heap.size ≤ B2
theorem OSt.wO {w0 w w' : World} {B1 B2 : Nat} {vC vO : Value} {C O O' : List Int} (h : OSt w0 B1 B2 vC vO C O w) (hi : Ints w' B2 vO O') (hg : w.grownBy w' vO.ownBlock) : OSt w0 B1 B2 vC vO C O' w' := by
 refine ⟨World.ownsRow.kept h.cls hg ?_, hi, h.lo, h.bel.grown hg h.bel.size (fun k hk => Nat.le_trans h.h2 (h.ord.base k hk)), h.h1, h.h2⟩
 cases hv : vC.ownBlock with
 | none => exact .inl rfl
 | some b => exact .inr (fun e => by have a1 := h.lo b hv; have a2 := h.ord.base b e.symm; omega)
theorem OSt.wC {w0 w w' : World} {B1 B2 : Nat} {vC vO : Value} {C C' O : List Int} (h : OSt w0 B1 B2 vC vO C O w) (hi : Ints w' B1 vC C') (hg : w.grownBy w' vC.ownBlock) : OSt w0 B1 B2 vC vO C' O w' := by
 refine ⟨hi, World.ownsRow.kept h.ord hg ?_, h.lo, h.bel.grown hg h.bel.size (fun k hk => Nat.le_trans h.h1 (h.cls.base k hk)), h.h1, h.h2⟩
 cases hv : vO.ownBlock with
 | none => exact .inl rfl
 | some b => exact .inr (fun e => by have a1 := h.lo b e.symm; have a2 := h.ord.base b hv; omega)
theorem cls_pos {T : Tb} (h : checkT T = 0) (c : Int) : 0 ≤ clsT T c := r3_cls (check_asc h).2 c
theorem getD_map_cls (T : Tb) (O : List Int) (k : Nat) (hk : k < O.length) : (O.map (clsT T)).getD k 0 = clsT T (O.getD k 0) := by
 simp [List.getD, List.getElem?_eq_getElem hk]
set_option maxRecDepth 100000 in
set_option maxHeartbeats 4000000 in
theorem order_at (x : TV) (T : Tb) (p : Option Addr) (cap : Nat) (zs : List Int) (E : Int) (L : List Int) (w : World) (hx : TabV w x T) (hr : Rsv w) (hin : IntsIn w p zs) (hl : zs.length ≤ 17592186043904)
 (hE : Hid (accE T zs = E)) (hL : Hid (ordL T zs = L)) :
 Calls Tryz.prog 114 #[x.agg, .slice p zs.length cap] w (LRet L E w) := by
 have HE := Lib.hid (Env.new hx)
 have HI := Lib.hid hin
 have HR := Lib.hid hr
 obtain ⟨C, hC⟩ : ∃ C, Hid (clsL T zs = C) := ⟨_, rfl⟩
 obtain ⟨n, hn⟩ : ∃ n, zs.length = n := ⟨_, rfl⟩
 have hcc := fun W hw hr' hi => classesOf_at x T p cap zs E C W hw hr' hi hl hE hC
 rw [hn] at hl hcc ⊢
 have HN := Lib.hid hn
 have HCC := Lib.hid hcc
 clear hx hr hin hn hcc
 simp only [TV.agg]
 go_enter Tryz.func114, Tryz.ntmps114
 obtain ⟨⟨k0, k1, k2, k3, k4, k5⟩, ⟨k6, k7, k8, k9, k10, k11⟩⟩ := HE.out.box.load
 go_wp2_with fail
 refine (HCC.out _ HE.out.tab (HR.out.below HE.out.bel) (HI.out.below HE.out.bel)).mono ?_
 rintro e w1 ⟨vC, rfl, hc1, hb1⟩
 have HZ : Hid (w.heap.size + 1 ≤ w1.heap.size) := by have := hb1.size; unfold Hid; simpa using this
 have HC1 : Hid (Ints w1 (w.heap.size + 1) vC C) := by unfold Hid; simpa using hc1
 replace HE := Lib.hid (HE.out.step hb1)
 clear hb1 hc1 k0 k1 k2 k3 k4 k5 k6 k7 k8 k9 k10 k11
 by_cases h0 : E = 0
 ·subst h0
  have HV : Hid (checkT T = 0) := (accE_ok hE.out).1
  have hn4 : n ≤ 4096 := by rw [← HN.out]; exact (accE_ok hE.out).2.1
  have HCK : Hid (C = zs.map (clsT T)) := by unfold Hid; rw [← hC.out]; unfold clsL; rw [hE.out, if_pos rfl]
  have HLL : Hid (L = ordS (clsT T) zs) := by unfold Hid; rw [← hL.out]; unfold ordL; rw [hE.out, if_pos rfl]
  have hmk := run_make_ints0 n (by omega)
  obtain ⟨pC, cC, hvC, hqC⟩ := HC1.out.inn
  clear hqC
  have hcl : C.length = n := by rw [HCK.out, List.length_map]; exact HN.out
  rw [hcl] at hvC
  subst hvC
  have hblk : w1.heap.size ≤ (w1.alloc (madeI n)).heap.size := by simp
  clear hcl
  go_wp2_with (at_builtin; refine wpList_append_ints (.tmp 22) (.tmp 23) rfl rfl w1.heap.size (.slice (some ⟨w1.heap.size, 0, none⟩) 0 n) [] rfl (Ints.made w1 w1.heap.size n (Nat.le_refl _) (by omega)) p n cap zs HN.out rfl ((HI.out.below HE.out.bel).alloc _) (by rw [HN.out]; simp; omega) hblk ?_; intro v2 w2 ho2 hg2)
  rw [List.nil_append] at ho2
  have hst : OSt w (w.heap.size + 1) w1.heap.size (.slice pC n cC) v2 C zs w2 := by
   have hg2' := hg2
   refine ⟨?_, ho2, fun b hb => (World.ownsRow.lt HC1.out b hb).2, ?_, Nat.le_succ _, HE.out.bel.size⟩
   ·exact World.ownsRow.kept (World.ownsRow.alloc HC1.out _) hg2 (by
     cases hv : (Value.slice pC n cC).ownBlock with
     | none => exact .inl rfl
     | some b => exact .inr (fun e => by have := (World.ownsRow.lt HC1.out b hv).2; simp [Value.ownBlock] at e; omega))
   ·exact (HE.out.bel.alloc HE.out.bel.size _).grown hg2 (by have := HE.out.bel.size; simp; omega) (fun k hk => by have := HE.out.bel.size; simp [Value.ownBlock] at hk; omega)
  obtain ⟨pO, cO, hvO, hqO⟩ := ho2.inn
  clear hqO
  rw [HN.out] at hvO
  subst hvO
  have HST : Hid (OSt w (w.heap.size + 1) w1.heap.size (.slice pC n cC) (.slice pO n cO) ((ordAt (clsT T) zs 0).map (clsT T)) (ordAt (clsT T) zs 0) w2) := by
   unfold Hid; rw [ordAt_zero, ← HCK.out]; exact hst
  generalize hB2 : w1.heap.size = B2 at HST
  clear ho2 hg2 hst hmk
  go_wp2
  go_simp
  go_wp2
  go_loopw [9, 10, 27] (fun _ _ i wr => ∃ k : Nat, k ≤ n ∧ i = .int .i64 k ∧ Hid (OSt w (w.heap.size + 1) B2 (.slice pC n cC) (.slice pO n cO) ((ordAt (clsT T) zs k).map (clsT T)) (ordAt (clsT T) zs k) wr)) (fun _ _ i _ => n - (intOf i).toNat)
  case atStart => exact ⟨0, Nat.zero_le _, rfl, HST⟩
  case round =>
   obtain ⟨k, hk, rfl, hs⟩ := hrel
   by_cases hlt : k < n
   ·have hol : (ordAt (clsT T) zs k).length = n := by rw [ordAt_length]; exact HN.out
    obtain ⟨O, hO⟩ : ∃ O, ordAt (clsT T) zs k = O := ⟨_, rfl⟩
    obtain ⟨O2, hO2⟩ : ∃ O, ordAt (clsT T) zs (k + 1) = O := ⟨_, rfl⟩
    have hstep := ordAt_step (clsT T) zs k (by rw [HN.out]; exact hlt)
    rw [hO] at hs hol hstep
    rw [hO2] at hstep
    obtain ⟨K, hK⟩ : ∃ K, O.map (clsT T) = K := ⟨_, rfl⟩
    have hkl : K.length = n := by rw [← hK, List.length_map]; exact hol
    obtain ⟨c, hc⟩ : ∃ c, K.getD k 0 = c := ⟨_, rfl⟩
    have hce : clsT T (O.getD k 0) = c := by rw [← hc, ← hK, getD_map_cls T O k (by omega)]
    have hc0 : 0 ≤ c := by rw [← hce]; exact cls_pos HV.out _
    rw [hK] at hs hstep
    rw [hce] at hstep
    obtain ⟨P, hP⟩ : ∃ P, plc K c k = P := ⟨_, rfl⟩
    rw [hP] at hstep
    have hPk : P ≤ k := by rw [← hP]; exact plc_le _ _ _
    have hmap : mvb K k P = O2.map (clsT T) := by rw [← hK, ← mvb_map (clsT T) O k P (by omega), hstep]
    obtain ⟨q, cq, e1, hq⟩ := hs.out.cls.inn
    rw [hkl] at e1
    cases e1
    have HQ := Lib.hid hq
    have HPP := Lib.hid hP
    have HSTEP := Lib.hid hstep
    have HMAP := Lib.hid hmap
    have HKL := Lib.hid hkl
    have HCC2 := Lib.hid hc
    have HOL := Lib.hid hol
    have HO2 := Lib.hid hO2
    clear hO hO2 hstep hK hkl hc hce hP hmap hq hol
    go_wp2_with fail
    refine (placeOf_at pC n cC k P K c _ HQ.out HKL hl hlt HCC2 hc0 HPP).mono ?_
    rintro e w3 ⟨rfl, rfl⟩
    go_wp2_with fail
    refine (moveBack_any B2 (.slice pO n cO) O O2 k P _ hs.out.ord (by rw [HOL.out]; exact hlt) hPk (by rw [HOL.out]; omega) HSTEP).mono ?_
    rintro e w3 ⟨rfl, ho3, hg3⟩
    have HS3 := Lib.hid (hs.out.wO ho3 hg3)
    clear ho3 hg3
    go_wp2_with fail
    refine (moveBack_any (w.heap.size + 1) (.slice pC n cC) K (O2.map (clsT T)) k P _ HS3.out.cls (by rw [HKL.out]; exact hlt) hPk (by rw [HKL.out]; omega) HMAP).mono ?_
    rintro e w4 ⟨rfl, ho4, hg4⟩
    have HS4 := Lib.hid (HS3.out.wC ho4 hg4)
    clear ho4 hg4
    go_wp2
    go_roundw
    case rel => exact ⟨k + 1, by omega, by go_num, by rw [HO2.out]; exact HS4⟩
    case measure => simp [intOf]; omega
   ·obtain rfl : k = n := by omega
    have hend : ordAt (clsT T) zs k = L := by rw [HLL.out, ← HN.out, ordAt_end]
    have ho : Ints wr B2 (.slice pO k cO) L := by rw [← hend]; exact hs.out.ord
    have HO := Lib.hid ho
    clear hend ho
    go_wp2
    go_ret2
    exact ⟨_, rfl, HO.out.mono hs.out.h2, hs.out.bel⟩
 ·have d0 : (E != 0) = true := by simp [h0]
  have HLL : Hid (L = []) := by unfold Hid; rw [← hL.out]; unfold ordL; rw [hE.out, if_neg h0]
  clear h0
  go_wp2
  go_ret2
  rw [HLL.out]
  exact ⟨_, rfl, Ints.nil _ _, HE.out.bel⟩
theorem opens_length (T : Tb) (l : List Int) : (opens T l).length = l.length := by simp [opens]
theorem opens_at (T : Tb) (l : List Int) (k : Nat) (hk : k < l.length) : openA (opens T l) k = decide ((l.map (clsT T)).getD k 0 ≠ 0) := by
 unfold openA opens
 simp [List.getD, List.getElem?_eq_getElem hk]
theorem odd_open (bs : List Bool) (k : Nat) : decide ((edgesN bs k).length % 2 = 1) = openB bs k := by
 rw [edges_odd]
 cases openB bs k <;> simp
set_option maxRecDepth 100000 in
set_option maxHeartbeats 4000000 in
theorem runs_at (x : TV) (T : Tb) (p : Option Addr) (cap : Nat) (zs : List Int) (E : Int) (L : List Int) (w : World) (hx : TabV w x T) (hr : Rsv w) (hin : IntsIn w p zs) (hl : zs.length ≤ 17592186043904)
 (hE : Hid (accE T zs = E)) (hL : Hid (runsL T zs = L)) :
 Calls Tryz.prog 57 #[x.agg, .slice p zs.length cap] w (LRet L E w) := by
 have HE := Lib.hid (Env.new hx)
 have HI := Lib.hid hin
 have HR := Lib.hid hr
 obtain ⟨C, hC⟩ : ∃ C, Hid (clsL T zs = C) := ⟨_, rfl⟩
 obtain ⟨n, hn⟩ : ∃ n, zs.length = n := ⟨_, rfl⟩
 have hcc := fun W hw hr' hi => classesOf_at x T p cap zs E C W hw hr' hi hl hE hC
 rw [hn] at hl hcc ⊢
 have HN := Lib.hid hn
 have HCC := Lib.hid hcc
 clear hx hr hin hn hcc
 simp only [TV.agg]
 go_enter Tryz.func57, Tryz.ntmps57
 obtain ⟨⟨k0, k1, k2, k3, k4, k5⟩, ⟨k6, k7, k8, k9, k10, k11⟩⟩ := HE.out.box.load
 go_wp2_with fail
 refine (HCC.out _ HE.out.tab (HR.out.below HE.out.bel) (HI.out.below HE.out.bel)).mono ?_
 rintro e w1 ⟨vC, rfl, hc1, hb1⟩
 replace HE := Lib.hid (HE.out.step hb1)
 by_cases h0 : E = 0
 ·subst h0
  have HV : Hid (checkT T = 0) := (accE_ok hE.out).1
  have hn4 : n ≤ 4096 := by rw [← HN.out]; exact (accE_ok hE.out).2.1
  have HCK : Hid (C = zs.map (clsT T)) := by unfold Hid; rw [← hC.out]; unfold clsL; rw [hE.out, if_pos rfl]
  obtain ⟨bs, hbs⟩ : ∃ bs, Hid (opens T zs = bs) := ⟨_, rfl⟩
  have HLL : Hid (L = runsS bs) := by unfold Hid; rw [← hL.out, ← hbs.out]; unfold runsL; rw [hE.out, if_pos rfl]
  have HBL : Hid (bs.length = n) := by unfold Hid; rw [← hbs.out, opens_length]; exact HN.out
  obtain ⟨pC, cC, hvC, hqC⟩ := hc1.inn
  have hcl : C.length = n := by rw [HCK.out, List.length_map]; exact HN.out
  rw [hcl] at hvC
  subst hvC
  have HQ := Lib.hid hqC
  have HCL := Lib.hid hcl
  clear hcl hqC hc1 hb1 k0 k1 k2 k3 k4 k5 k6 k7 k8 k9 k10 k11
  go_wp2
  go_loopw [8, 9, 10, 22] (fun v _ _ i wr => ∃ k : Nat, k ≤ n ∧ i = .int .i64 k ∧ Hid (Ints wr w1.heap.size v (edgesN bs k)) ∧ Hid (Below w1.heap.size w1 wr)) (fun _ _ _ i _ => n - (intOf i).toNat)
  case atStart => exact ⟨0, Nat.zero_le _, rfl, Ints.nil _ _, Below.refl _ _⟩
  case round =>
   obtain ⟨k, hk, rfl, ho, hb⟩ := hrel
   obtain ⟨A, hA⟩ : ∃ A, edgesN bs k = A := ⟨_, rfl⟩
   have hsn := edges_succ bs k
   rw [hA] at ho hsn
   obtain ⟨B, hB⟩ : ∃ B, Hid (openB bs k = B) := ⟨_, rfl⟩
   have hodd := odd_open bs k
   rw [hA, hB.out] at hodd
   have hAk : A.length ≤ 4097 := by rw [← hA]; exact Nat.le_trans (edges_len bs k) (by omega)
   obtain ⟨pb, cb, hv, hqb⟩ := ho.out.inn
   subst hv
   obtain ⟨m, hm⟩ : ∃ m, A.length = m := ⟨_, rfl⟩
   rw [hm] at hodd hAk ho ⊢
   have HM := Lib.hid hm
   have HODD := Lib.hid hodd
   have HSN := Lib.hid hsn
   clear hqb hA hsn hodd hm
   by_cases hlt : k < n
   ·obtain ⟨bc, offc, rfl, hck⟩ := (HQ.out.below hb.out) k (by rw [HCL.out]; exact hlt)
    obtain ⟨c, hc⟩ : ∃ c, C.getD k 0 = c := ⟨_, rfl⟩
    rw [hc] at hck
    have hoa : openA bs k = decide (c ≠ 0) := by rw [← hbs.out, opens_at T zs k (by rw [HN.out]; exact hlt), ← HCK.out, hc]
    obtain ⟨D, hD⟩ : ∃ D, (c != 0) = D := ⟨_, rfl⟩
    have hoD : openA bs k = D := by rw [hoa, ← hD, Bool.eq_iff_iff]; simp
    have HED : Hid (edgeA bs k = (B != D)) := by unfold Hid edgeA; rw [hB.out, hoD]
    clear hc hoa hoD
    go_wp2_with fail
    refine (isOpen_any pb m cb B _ HODD (by omega)).mono ?_
    rintro e w3 ⟨rfl, rfl⟩
    cases B with
    | false =>
     cases D with
     | false =>
      have HAS : Hid (Ints wr w1.heap.size (.slice pb m cb) (edgesN bs (k + 1))) := by
       unfold Hid; rw [HSN.out, HED.out]; simpa using ho.out
      go_wp2
      go_roundw
      case rel => exact ⟨k + 1, by omega, by go_num, HAS, hb⟩
      case measure => simp [intOf]; omega
     | true =>
      have hbz := hb.out.size
      go_wp2_with (at_builtin; (refine wpList_append_int (.tmp 32) (.tmp 34) rfl rfl w1.heap.size (.slice pb m cb) A rfl ho.out k 1 _ rfl (by simp) (by have := HM.out; omega) hbz ?_); intro v1 w3 ho1 hg1)
      have HAS : Hid (Ints w3 w1.heap.size v1 (edgesN bs (k + 1))) := by
       unfold Hid; rw [HSN.out, HED.out]; simpa using ho1
      have HB3 : Hid (Below w1.heap.size w1 w3) := below_appI hb.out ho.out (Nat.le_refl _) hg1
      clear ho1 hg1 hbz
      go_wp2
      go_roundw
      case rel => exact ⟨k + 1, by omega, by go_num, HAS, HB3⟩
      case measure => simp [intOf]; omega
    | true =>
     cases D with
     | false =>
      have hbz := hb.out.size
      go_wp2_with (at_builtin; (refine wpList_append_int (.tmp 32) (.tmp 34) rfl rfl w1.heap.size (.slice pb m cb) A rfl ho.out k 1 _ rfl (by simp) (by have := HM.out; omega) hbz ?_); intro v1 w3 ho1 hg1)
      have HAS : Hid (Ints w3 w1.heap.size v1 (edgesN bs (k + 1))) := by
       unfold Hid; rw [HSN.out, HED.out]; simpa using ho1
      have HB3 : Hid (Below w1.heap.size w1 w3) := below_appI hb.out ho.out (Nat.le_refl _) hg1
      clear ho1 hg1 hbz
      go_wp2
      go_roundw
      case rel => exact ⟨k + 1, by omega, by go_num, HAS, HB3⟩
      case measure => simp [intOf]; omega
     | true =>
      have HAS : Hid (Ints wr w1.heap.size (.slice pb m cb) (edgesN bs (k + 1))) := by
       unfold Hid; rw [HSN.out, HED.out]; simpa using ho.out
      go_wp2
      go_roundw
      case rel => exact ⟨k + 1, by omega, by go_num, HAS, hb⟩
      case measure => simp [intOf]; omega
   ·obtain rfl : k = n := by omega
    have HED : Hid (edgeA bs k = B) := by
     have : openA bs k = false := by rw [← HBL.out]; exact openB_end bs
     unfold Hid edgeA; rw [hB.out, this]; simp
    have hRS : runsS bs = A ++ if edgeA bs k then [(k : Int)] else [] := by
     unfold runsS; rw [HBL.out]; exact HSN.out
    rw [HED.out] at hRS
    have HRS := Lib.hid hRS
    clear hRS
    go_wp2_with fail
    refine (isOpen_any pb m cb B _ HODD (by omega)).mono ?_
    rintro e w3 ⟨rfl, rfl⟩
    cases B with
    | false =>
     have HAL : Hid (L = A) := by unfold Hid; rw [HLL.out, HRS.out]; simp
     go_wp2
     go_ret2
     exact ⟨_, rfl, by rw [HAL.out]; exact ho.out.mono HE.out.bel.size, HE.out.bel.trans (hb.out.mono HE.out.bel.size)⟩
    | true =>
     have HAL : Hid (L = A ++ [(k : Int)]) := by unfold Hid; rw [HLL.out, HRS.out]; simp
     have hbz := hb.out.size
     go_wp2_with (at_builtin; (refine wpList_append_int (.tmp 39) (.tmp 42) rfl rfl w1.heap.size (.slice pb m cb) A rfl ho.out k 1 _ rfl (by simp) (by have := HM.out; omega) hbz ?_); intro v1 w3 ho1 hg1)
     have HO1 := Lib.hid ho1
     have HB3 : Hid (Below w1.heap.size w1 w3) := below_appI hb.out ho.out (Nat.le_refl _) hg1
     clear ho1 hg1 hbz
     go_wp2
     go_ret2
     exact ⟨_, rfl, by rw [HAL.out]; exact HO1.out.mono HE.out.bel.size, HE.out.bel.trans (HB3.out.mono HE.out.bel.size)⟩
 ·have d0 : (E != 0) = true := by simp [h0]
  have HLL : Hid (L = []) := by unfold Hid; rw [← hL.out]; unfold runsL; rw [hE.out, if_neg h0]
  clear h0 hc1 hb1 k0 k1 k2 k3 k4 k5 k6 k7 k8 k9 k10 k11
  go_wp2
  go_ret2
  rw [HLL.out]
  exact ⟨_, rfl, Ints.nil _ _, HE.out.bel⟩
end Go.Proofs.YtopaojjodkoidaaGreatDoor
