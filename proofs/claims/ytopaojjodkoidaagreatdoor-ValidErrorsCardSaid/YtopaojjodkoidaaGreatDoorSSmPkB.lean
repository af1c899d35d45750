/- Tables, plain mathematics: the properties of a code point, t -/
import Derived.Test.YtopaojjodkoidaaGreatDoorSSmPkA
import Derived.Laws.Rows
set_option linter.unusedSimpArgs false
set_option linter.unusedVariables false
namespace Go.Proofs.YtopaojjodkoidaaGreatDoor
abbrev Mp := Int × List Int
structure Tb where
 cat : List Sp
 cls : List Sp
 joi : List Sp
 bid : List Sp
 scr : List Sp
 sta : List Sp
 ign : List Sp
 ext : List Mp
 map : List Mp
 dec : List Mp
 exc : List Int
 pro : List Mp
def findM : List Mp → Int → List Int
 | [], _ => []
 | m :: r, c => if m.1 = c then m.2 else findM r c
def hasM (l : List Mp) (c : Int) : Bool := l.any fun m => decide (m.1 = c)
theorem findM_nil {l : List Mp} {c : Int} (h : hasM l c = false) : findM l c = [] := by
 induction l with
 | nil => rfl
 | cons m r ih =>
  simp only [hasM, List.any_cons, Bool.or_eq_false_iff, decide_eq_false_iff_not] at h
  rw [findM, if_neg h.1]; exact ih h.2
theorem hasM_iff {l : List Mp} {c : Int} : hasM l c = true ↔ ∃ m ∈ l, m.1 = c := by
 simp [hasM]
theorem findM_has {l : List Mp} {c : Int} (h : hasM l c = true) : (c, findM l c) ∈ l := by
 induction l with
 | nil => simp [hasM] at h
 | cons m r ih =>
  by_cases hm : m.1 = c
  ·rw [findM, if_pos hm, ← hm]; exact List.mem_cons_self
  ·rw [findM, if_neg hm]
   have : hasM r c = true := by
    simp only [hasM, List.any_cons, Bool.or_eq_true, decide_eq_true_eq] at h
    exact h.resolve_left hm
   exact List.mem_cons_of_mem _ (ih this)
def ascI (lo hi : Int) : List Int → Bool
 | [] => true
 | v :: r => decide (lo ≤ v) && (decide (v ≤ hi) && ascI (v + 1) hi r)
def endI (lo : Int) : List Int → Int
 | [] => lo
 | v :: r => endI (v + 1) r
theorem ascI_cons {lo hi v : Int} {r : List Int} : ascI lo hi (v :: r) = true ↔ lo ≤ v ∧ v ≤ hi ∧ ascI (v + 1) hi r = true := by simp [ascI]
theorem ascI_append {lo hi : Int} {a b : List Int} : ascI lo hi (a ++ b) = true ↔ ascI lo hi a = true ∧ ascI (endI lo a) hi b = true := by
 induction a generalizing lo with
 | nil => simp [ascI, endI]
 | cons v r ih => simp only [List.cons_append, ascI_cons, ih, endI, and_assoc]
theorem endI_append (lo : Int) (a b : List Int) : endI lo (a ++ b) = endI (endI lo a) b := by
 induction a generalizing lo with
 | nil => rfl
 | cons v r ih => exact ih _
theorem ascI_snoc {lo hi v : Int} {a : List Int} : ascI lo hi (a ++ [v]) = true ↔ ascI lo hi a = true ∧ endI lo a ≤ v ∧ v ≤ hi := by
 rw [ascI_append, ascI_cons]; simp [ascI]
theorem endI_snoc (lo v : Int) (a : List Int) : endI lo (a ++ [v]) = v + 1 := by rw [endI_append]; rfl
theorem endI_ge {lo hi : Int} {a : List Int} (h : ascI lo hi a = true) : lo ≤ endI lo a := by
 induction a generalizing lo with
 | nil => exact Int.le_refl _
 | cons v r ih => rw [ascI_cons] at h; have := ih h.2.2; simp only [endI]; omega
theorem ascI_mem {lo hi : Int} {a : List Int} (h : ascI lo hi a = true) {v : Int} (hv : v ∈ a) : lo ≤ v ∧ v ≤ hi ∧ v < endI lo a := by
 induction a generalizing lo with
 | nil => cases hv
 | cons u r ih =>
  rw [ascI_cons] at h
  have h2 := endI_ge h.2.2
  rcases List.mem_cons.1 hv with rfl | hv
  ·simp only [endI]; omega
  ·have := ih h.2.2 hv
   simp only [endI]; omega
theorem ascI_take {lo hi : Int} {a : List Int} (k : Nat) (h : ascI lo hi a = true) : ascI lo hi (a.take k) = true := by
 rw [← List.take_append_drop k a, ascI_append] at h; exact h.1
theorem ascI_prefix {lo hi : Int} {a : List Int} (k : Nat) (h : ascI lo hi (a.take k) = false) : ascI lo hi a = false := by
 cases hb : ascI lo hi a with
 | false => rfl
 | true => rw [ascI_take k hb] at h; cases h
theorem ascI_nodup {lo hi : Int} {a : List Int} (h : ascI lo hi a = true) : a.Nodup := by
 induction a generalizing lo with
 | nil => exact List.nodup_nil
 | cons v r ih =>
  rw [ascI_cons] at h
  rw [List.nodup_cons]
  refine ⟨fun hv => ?_, ih h.2.2⟩
  have := (ascI_mem h.2.2 hv).1
  omega
theorem ascI_mono {lo hi : Int} {a : List Int} (h : ascI lo hi a = true) (k : Nat) (hk : k < a.length) :
 (∀ v ∈ a.take k, v < a.getD k 0) ∧ ∀ v ∈ a.drop (k + 1), a.getD k 0 < v := by
 have e : a = a.take k ++ (a.getD k 0 :: a.drop (k + 1)) := by
  have : a.getD k 0 = a[k] := by simp [hk]
  rw [this, ← List.drop_eq_getElem_cons hk, List.take_append_drop]
 rw [e] at h
 rw [ascI_append, ascI_cons] at h
 refine ⟨fun v hv => ?_, fun v hv => ?_⟩
 ·have := (ascI_mem h.1 hv).2.2; omega
 ·have := (ascI_mem h.2.2.2 hv).1; omega
def sylB (c : Int) : Bool := decide (44032 ≤ c) && decide (c ≤ 55203)
def jamB (c : Int) : Bool := decide (4352 ≤ c) && decide (c ≤ 4370) || decide (4449 ≤ c) && decide (c ≤ 4469) || decide (4520 ≤ c) && decide (c ≤ 4546)
def meets (f t a b : Int) : Bool := decide (f ≤ b) && decide (a ≤ t)
def resF (f t : Int) : Bool := meets f t 0 127 || (meets f t 4352 4370 || (meets f t 4449 4469 || (meets f t 4520 4546 || (meets f t 44032 55203 || meets f t 55296 57343))))
def resB (c : Int) : Bool := resF c c
def lowB (c : Int) : Bool := decide (97 ≤ c) && decide (c ≤ 122)
def uppB (c : Int) : Bool := decide (65 ≤ c) && decide (c ≤ 90)
def digB (c : Int) : Bool := decide (48 ≤ c) && decide (c ≤ 57)
def latB (c : Int) : Bool := lowB c || digB c || decide (c = 45)
def resP (c : Int) : Bool := resB c && !latB c
theorem sylB_iff {c : Int} : sylB c = true ↔ 44032 ≤ c ∧ c ≤ 55203 := by simp [sylB]
theorem jamB_iff {c : Int} : jamB c = true ↔ (4352 ≤ c ∧ c ≤ 4370) ∨ (4449 ≤ c ∧ c ≤ 4469) ∨ (4520 ≤ c ∧ c ≤ 4546) := by simp [jamB, or_assoc]
theorem lowB_iff {c : Int} : lowB c = true ↔ 97 ≤ c ∧ c ≤ 122 := by simp [lowB]
theorem uppB_iff {c : Int} : uppB c = true ↔ 65 ≤ c ∧ c ≤ 90 := by simp [uppB]
theorem digB_iff {c : Int} : digB c = true ↔ 48 ≤ c ∧ c ≤ 57 := by simp [digB]
theorem latB_iff {c : Int} : latB c = true ↔ (97 ≤ c ∧ c ≤ 122) ∨ (48 ≤ c ∧ c ≤ 57) ∨ c = 45 := by simp [latB, lowB_iff, digB_iff, or_assoc]
theorem resF_iff {f t : Int} : resF f t = true ↔ (f ≤ 127 ∧ 0 ≤ t) ∨ (f ≤ 4370 ∧ 4352 ≤ t) ∨ (f ≤ 4469 ∧ 4449 ≤ t) ∨ (f ≤ 4546 ∧ 4520 ≤ t) ∨ (f ≤ 55203 ∧ 44032 ≤ t) ∨ (f ≤ 57343 ∧ 55296 ≤ t) := by simp [resF, meets]
theorem resB_iff {c : Int} : resB c = true ↔ (c ≤ 127 ∧ 0 ≤ c) ∨ (c ≤ 4370 ∧ 4352 ≤ c) ∨ (c ≤ 4469 ∧ 4449 ≤ c) ∨ (c ≤ 4546 ∧ 4520 ≤ c) ∨ (c ≤ 55203 ∧ 44032 ≤ c) ∨ (c ≤ 57343 ∧ 55296 ≤ c) := resF_iff
def fixC (c : Int) : Int :=
 if lowB c || uppB c || sylB c || jamB c then 1 else if digB c then 3 else if 0 ≤ c ∧ c < 32 ∨ c = 127 then 8 else if c = 32 then 7 else if 32 < c ∧ c < 127 then 5 else 0
def fixB (c : Int) : Int :=
 if lowB c || uppB c then 0 else if digB c then 4 else if c = 45 then 5 else if c = 46 then 6 else if 0 ≤ c ∧ c ≤ 32 ∨ c = 127 then 11 else if 32 < c ∧ c < 127 then 8 else 0
def fixS (c : Int) : Int := if lowB c || uppB c then 3 else if 0 ≤ c ∧ c ≤ 127 then 1 else if sylB c || jamB c then 9 else 0
def fixT (c : Int) : Int := if latB c || decide (c = 46) || sylB c then 1 else if uppB c then 3 else 0
def catT (T : Tb) (c : Int) : Int := (val T.cat c).getD (fixC c)
def clsT (T : Tb) (c : Int) : Int := (val T.cls c).getD 0
def joiT (T : Tb) (c : Int) : Int := (val T.joi c).getD 0
def scrT (T : Tb) (c : Int) : Int := (val T.scr c).getD (fixS c)
def staT (T : Tb) (c : Int) : Int := (val T.sta c).getD (fixT c)
def ignT (T : Tb) (c : Int) : Bool := (val T.ign c).isSome
def excT (T : Tb) (c : Int) : Bool := T.exc.contains c
def mapsT (T : Tb) (c : Int) : List Int := if uppB c then [c + 32] else findM T.map c
def scaB (c : Int) : Bool := decide (0 ≤ c) && decide (c ≤ 1114111) && !(decide (55296 ≤ c) && decide (c ≤ 57343))
def spansT (T : Tb) : List (List Sp) := [T.cat, T.cls, T.joi, T.bid, T.scr, T.sta, T.ign]
def mpsT (T : Tb) : List (List Mp) := [T.ext, T.map, T.dec, T.pro]
def fewS (l : List Sp) : Bool := decide (l.length ≤ 256)
def fewM (l : List Mp) : Bool := decide (l.length ≤ 256)
def r1 (T : Tb) : Bool := (spansT T).all fewS && ((mpsT T).all fewM && decide (T.exc.length ≤ 256))
def spOk (l : List Sp) : Bool := ascB 0 l && l.all fun s => !resF s.1 s.2.1
def keyOk (l : List Int) : Bool := ascI 0 1114111 l && l.all fun c => !resB c
def keyOkP (l : List Int) : Bool := ascI 0 1114111 l && l.all fun c => !resP c
def froms (l : List Mp) : List Int := l.map (·.1)
def r2 (T : Tb) : Bool := (spansT T).all spOk && (keyOk (froms T.ext) && (keyOk (froms T.map) && (keyOk (froms T.dec) && (keyOkP (froms T.pro) && keyOk T.exc))))
def valOk (lo hi : Int) (l : List Sp) : Bool := l.all fun s => decide (lo ≤ s.2.2) && decide (s.2.2 ≤ hi)
def r3 (T : Tb) : Bool := valOk 0 8 T.cat && (valOk 1 254 T.cls && (valOk 0 5 T.joi && (valOk 0 11 T.bid && (valOk 0 60 T.scr && (valOk 0 4 T.sta && valOk 1 1 T.ign)))))
def seqE (m : Mp) : Bool := decide (1 ≤ m.2.length) && decide (m.2.length ≤ 18) && ascI 3 60 m.2
def seqS (m : Mp) : Bool := decide (1 ≤ m.2.length) && decide (m.2.length ≤ 18) && m.2.all scaB
def r4 (T : Tb) : Bool := T.ext.all seqE && (T.map.all seqS && (T.dec.all seqS && T.pro.all seqS))
def cntV (v : Int) : List Sp → Int
 | [] => 0
 | s :: r => (if s.2.2 = v then s.2.1 - s.1 + 1 else 0) + cntV v r
def okSta (T : Tb) (c : Int) : Bool := decide (staT T c = 1) || decide (staT T c = 4)
def mapOk (T : Tb) (m : Mp) : Bool := decide (staT T m.1 = 3) && m.2.all (okSta T)
def r5 (T : Tb) : Bool := T.map.all (mapOk T) && decide (cntV 3 T.sta = T.map.length)
def forb (c : Int) : Bool := decide (c = 46) || (sylB c || jamB c)
def short2 (m : Mp) : Bool := decide (m.2.length ≤ 2) && m.2.all fun c => !forb c
def sz (l : List Mp) : Nat → Int → Nat
 | 0, c => if findM l c = [] then 1 else 19
 | k + 1, c => if findM l c = [] then 1 else min 19 ((findM l c).map (sz l k)).sum
theorem sz_zero {l : List Mp} {c : Int} (k : Nat) (h : findM l c = []) : sz l k c = 1 := by
 cases k <;> simp [sz, h]
theorem sz_succ {l : List Mp} {c : Int} (k : Nat) (h : findM l c ≠ []) : sz l (k + 1) c = min 19 ((findM l c).map (sz l k)).sum := by
 rw [sz, if_neg h]
theorem sum_mem {α : Type} (f : α → Nat) (l : List α) (x : α) (h : x ∈ l) : f x ≤ (l.map f).sum := by
 induction l with
 | nil => cases h
 | cons y r ih =>
  rw [List.map_cons, List.sum_cons]
  rcases List.mem_cons.1 h with rfl | h
  ·omega
  ·have := ih h; omega
theorem sum_length {α : Type} (f : α → Nat) (l : List α) (h : ∀ x ∈ l, 1 ≤ f x) : l.length ≤ (l.map f).sum := by
 induction l with
 | nil => simp
 | cons y r ih =>
  have h1 := h y (by simp)
  have h2 := ih fun x hx => h x (by simp [hx])
  simp only [List.map_cons, List.sum_cons, List.length_cons]; omega
theorem sz_bd (l : List Mp) (k : Nat) (c : Int) : 1 ≤ sz l k c ∧ sz l k c ≤ 19 := by
 induction k generalizing c with
 | zero => simp only [sz]; split <;> omega
 | succ k ih =>
  by_cases h : findM l c = []
  ·rw [sz_zero _ h]; omega
  ·rw [sz_succ _ h]
   have h1 := sum_length (sz l k) (findM l c) fun x _ => (ih x).1
   have h2 : 1 ≤ (findM l c).length := by
    cases hc : findM l c with
    | nil => exact absurd hc h
    | cons _ _ => simp
   omega
def Dp (l : List Mp) : Nat → Int → Prop
 | 0, c => findM l c = []
 | k + 1, c => ∀ x ∈ findM l c, Dp l k x
theorem Dp.nil {l : List Mp} {c : Int} (k : Nat) (h : findM l c = []) : Dp l k c := by
 cases k with
 | zero => exact h
 | succ k => intro x hx; rw [h] at hx; cases hx
theorem Dp.succ {l : List Mp} {k : Nat} {c : Int} (h : Dp l k c) : Dp l (k + 1) c := by
 induction k generalizing c with
 | zero => exact Dp.nil _ h
 | succ k ih => intro x hx; exact ih (h x hx)
theorem sz_dp {l : List Mp} {k : Nat} {c : Int} (h : Dp l k c) : sz l (k + 1) c = sz l k c := by
 induction k generalizing c with
 | zero => rw [sz_zero _ h, sz_zero _ h]
 | succ k ih =>
  by_cases hc : findM l c = []
  ·rw [sz_zero _ hc, sz_zero _ hc]
  ·rw [sz_succ _ hc, sz_succ _ hc]
   congr 2
   exact List.map_congr_left fun x hx => ih (h x hx)
inductive Rch (l : List Mp) : Int → Int → Prop
 | one {c d : Int} : d ∈ findM l c → Rch l c d
 | more {c d e : Int} : d ∈ findM l c → Rch l d e → Rch l c e
theorem Rch.snoc {l : List Mp} {c d e : Int} (h : Rch l c d) (k : e ∈ findM l d) : Rch l c e := by
 induction h with
 | one h => exact .more h (.one k)
 | more h _ ih => exact .more h (ih k)
theorem Rch.first {l : List Mp} {c : Int} (h : Rch l c c) : ∃ d ∈ findM l c, Rch l d d := by
 cases h with
 | one h => exact ⟨c, h, .one h⟩
 | more h k => exact ⟨_, h, k.snoc h⟩
theorem ne_nil_of_mem' {α : Type} {l : List α} {x : α} (h : x ∈ l) : l ≠ [] := by
 rintro rfl; cases h
theorem sz_part {l : List Mp} {k : Nat} {c d : Int} (h : d ∈ findM l c) (hd : sz l k d = 19) : sz l (k + 1) c = 19 := by
 rw [sz_succ _ (ne_nil_of_mem' h)]
 have := sum_mem (sz l k) _ d h
 omega
theorem sz_ring {l : List Mp} (k : Nat) {c : Int} (h : Rch l c c) : sz l k c = 19 := by
 induction k generalizing c with
 | zero =>
  obtain ⟨d, hd, _⟩ := h.first
  rw [sz, if_neg (ne_nil_of_mem' hd)]
 | succ k ih =>
  obtain ⟨d, hd, hr⟩ := h.first
  exact sz_part hd (ih hr)
theorem sz_to_ring {l : List Mp} {c d : Int} (h : Rch l c d) (hd : Rch l d d) (k : Nat) : sz l k c = 19 := by
 induction h generalizing k with
 | one h =>
  cases k with
  | zero => rw [sz, if_neg (ne_nil_of_mem' h)]
  | succ k => exact sz_part h (sz_ring k hd)
 | more h _ ih =>
  cases k with
  | zero => rw [sz, if_neg (ne_nil_of_mem' h)]
  | succ k => exact sz_part h (ih hd k)
def chainP (l : List Mp) : Int → List Int → Prop
 | _, [] => True
 | c, d :: r => d ∈ findM l c ∧ chainP l d r
theorem chain_of_not_dp {l : List Mp} (k : Nat) (c : Int) (h : ¬ Dp l k c) : ∃ r, r.length = k ∧ chainP l c r ∧ ∀ x ∈ c :: r, findM l x ≠ [] := by
 induction k generalizing c with
 | zero => exact ⟨[], rfl, trivial, by intro x hx; rw [List.mem_singleton] at hx; subst hx; exact h⟩
 | succ k ih =>
  obtain ⟨x, hx⟩ := Classical.not_forall.1 h
  obtain ⟨hx, hd⟩ := Classical.not_imp.1 hx
  obtain ⟨r, h1, h2, h3⟩ := ih x hd
  refine ⟨x :: r, by simp [h1], ⟨hx, h2⟩, ?_⟩
  intro y hy
  rcases List.mem_cons.1 hy with rfl | hy
  ·exact ne_nil_of_mem' hx
  ·exact h3 y hy
theorem rch_of_chain {l : List Mp} (c : Int) (r : List Int) (h : chainP l c r) : ∀ x ∈ r, Rch l c x := by
 induction r generalizing c with
 | nil => intro x hx; cases hx
 | cons d r ih =>
  intro x hx
  rcases List.mem_cons.1 hx with rfl | hx
  ·exact .one h.1
  ·exact .more h.1 (ih d h.2 x hx)
theorem ring_of_chain {l : List Mp} (c : Int) (r : List Int) (h : chainP l c r) (hn : ¬ (c :: r).Nodup) : ∃ x, (x = c ∨ Rch l c x) ∧ Rch l x x := by
 induction r generalizing c with
 | nil => exact absurd (by simp) hn
 | cons d r ih =>
  by_cases hc : c ∈ d :: r
  ·exact ⟨c, .inl rfl, rch_of_chain c _ h c hc⟩
  ·have hd : ¬ (d :: r).Nodup := fun hd => hn (List.nodup_cons.2 ⟨hc, hd⟩)
   obtain ⟨x, hx, hr⟩ := ih d h.2 hd
   rcases hx with rfl | hx
   ·exact ⟨x, .inr (.one h.1), hr⟩
   ·exact ⟨x, .inr (.more h.1 hx), hr⟩
theorem pigeon (a m : List Int) (hn : a.Nodup) (h : ∀ x ∈ a, x ∈ m) : a.length ≤ m.length := by
 induction a generalizing m with
 | nil => simp
 | cons x r ih =>
  rw [List.nodup_cons] at hn
  have hx := h x (by simp)
  have := ih (m.erase x) hn.2 fun y hy => (List.mem_erase_of_ne (fun e => hn.1 (by rw [← e]; exact hy))).2 (h y (by simp [hy]))
  rw [List.length_erase_of_mem hx] at this
  have := List.length_pos_of_mem hx
  simp only [List.length_cons]; omega
theorem has_of_find {l : List Mp} {c : Int} (h : findM l c ≠ []) : c ∈ froms l := by
 cases hb : hasM l c with
 | false => exact absurd (findM_nil hb) h
 | true => obtain ⟨m, hm, rfl⟩ := hasM_iff.1 hb; exact List.mem_map_of_mem hm
theorem sz_deep {l : List Mp} {c : Int} (hl : l.length ≤ 256) (h : ¬ Dp l 256 c) (k : Nat) : sz l k c = 19 := by
 obtain ⟨r, h1, h2, h3⟩ := chain_of_not_dp 256 c h
 have hn : ¬ (c :: r).Nodup := by
  intro hn
  have := pigeon (c :: r) (froms l) hn fun x hx => has_of_find (h3 x hx)
  simp only [List.length_cons, h1, froms, List.length_map] at this
  omega
 obtain ⟨x, hx, hr⟩ := ring_of_chain c r h2 hn
 rcases hx with rfl | hx
 ·exact sz_ring k hr
 ·exact sz_to_ring hx hr k
def siz (l : List Mp) (c : Int) : Nat := sz l 256 c
theorem siz_bd (l : List Mp) (c : Int) : 1 ≤ siz l c ∧ siz l c ≤ 19 := sz_bd l 256 c
theorem siz_nil {l : List Mp} {c : Int} (h : findM l c = []) : siz l c = 1 := sz_zero _ h
theorem siz_eq {l : List Mp} {c : Int} (hl : l.length ≤ 256) (h : findM l c ≠ []) : siz l c = min 19 ((findM l c).map (siz l)).sum := by
 rw [show (siz l : Int → Nat) = sz l 256 from rfl, ← sz_succ 256 h]
 by_cases hd : Dp l 256 c
 ·exact (sz_dp hd).symm
 ·exact (sz_deep hl hd _).trans (sz_deep hl hd _).symm
theorem siz_dp {l : List Mp} {c : Int} (hl : l.length ≤ 256) (h : siz l c ≤ 18) : Dp l 256 c := by
 apply Classical.byContradiction
 intro hd
 have := sz_deep hl hd 256
 unfold siz at h; omega
theorem siz_ring {l : List Mp} {c : Int} (h : Rch l c c) : siz l c = 19 := sz_ring 256 h
def fulF (l : List Mp) : Nat → Int → List Int
 | 0, c => [c]
 | k + 1, c => if findM l c = [] then [c] else (findM l c).flatMap (fulF l k)
def ful (l : List Mp) (c : Int) : List Int := fulF l 256 c
theorem fulF_nil {l : List Mp} {c : Int} (k : Nat) (h : findM l c = []) : fulF l k c = [c] := by
 cases k <;> simp [fulF, h]
theorem fulF_dp {l : List Mp} {k : Nat} {c : Int} (h : Dp l k c) : fulF l (k + 1) c = fulF l k c := by
 induction k generalizing c with
 | zero => rw [fulF_nil _ h, fulF_nil _ h]
 | succ k ih =>
  by_cases hc : findM l c = []
  ·rw [fulF_nil _ hc, fulF_nil _ hc]
  ·rw [fulF, if_neg hc]
   conv => rhs; rw [fulF, if_neg hc]
   rw [List.flatMap_def, List.flatMap_def]
   congr 1
   exact List.map_congr_left fun x hx => ih (h x hx)
theorem ful_nil {l : List Mp} {c : Int} (h : findM l c = []) : ful l c = [c] := fulF_nil _ h
theorem ful_eq {l : List Mp} {c : Int} (hd : Dp l 256 c) (h : findM l c ≠ []) : ful l c = (findM l c).flatMap (ful l) := by
 unfold ful
 rw [← fulF_dp hd, fulF, if_neg h]
def exp1 (l : List Mp) (xs : List Int) : List Int := xs.flatMap fun x => if findM l x = [] then [x] else findM l x
def endB (l : List Mp) (xs : List Int) : Bool := xs.all fun x => decide (findM l x = [])
def fullR (l : List Mp) : Nat → List Int → Option (List Int)
 | 0, _ => none
 | r + 1, xs => if endB l xs = true then some xs else if 18 < (exp1 l xs).length then none else fullR l r (exp1 l xs)
theorem exp1_snoc (l : List Mp) (a : List Int) (x : Int) : exp1 l (a ++ [x]) = exp1 l a ++ if findM l x = [] then [x] else findM l x := by simp [exp1]
theorem endB_snoc (l : List Mp) (a : List Int) (x : Int) : endB l (a ++ [x]) = (endB l a && decide (findM l x = [])) := by simp [endB]
theorem sum_siz_pos (l : List Mp) (xs : List Int) : xs.length ≤ (xs.map (siz l)).sum := sum_length _ _ fun x _ => (siz_bd l x).1
theorem sum_exp1 {l : List Mp} (hl : l.length ≤ 256) (xs : List Int) : min 19 ((exp1 l xs).map (siz l)).sum = min 19 (xs.map (siz l)).sum := by
 induction xs with
 | nil => rfl
 | cons x r ih =>
  have e : exp1 l (x :: r) = (if findM l x = [] then [x] else findM l x) ++ exp1 l r := by simp [exp1]
  rw [e, List.map_append, List.sum_append, List.map_cons, List.sum_cons]
  by_cases hx : findM l x = []
  ·rw [if_pos hx]; simp only [List.map_cons, List.map_nil, List.sum_cons, List.sum_nil]; omega
  ·rw [if_neg hx, siz_eq hl hx]; omega
theorem all_nil_sum {l : List Mp} (xs : List Int) (h : endB l xs = true) : (xs.map (siz l)).sum = xs.length := by
 induction xs with
 | nil => rfl
 | cons x r ih =>
  simp only [endB, List.all_cons, Bool.and_eq_true, decide_eq_true_eq] at h
  rw [List.map_cons, List.sum_cons, siz_nil h.1, ih (by simpa [endB] using h.2), List.length_cons]; omega
theorem fullR_no {l : List Mp} (hl : l.length ≤ 256) (r : Nat) (xs : List Int) (h : 19 ≤ (xs.map (siz l)).sum) (hx : xs.length ≤ 18) : fullR l r xs = none := by
 induction r generalizing xs with
 | zero => rfl
 | succ r ih =>
  rw [fullR]
  by_cases he : endB l xs = true
  ·have := all_nil_sum xs he; omega
  ·rw [if_neg he]
   split
   ·rfl
   ·rename_i hb
    have := sum_exp1 hl xs
    exact ih _ (by omega) (by omega)
theorem flat_nil {l : List Mp} (k : Nat) (xs : List Int) (h : endB l xs = true) : xs.flatMap (fulF l k) = xs := by
 induction xs with
 | nil => rfl
 | cons x r ih =>
  simp only [endB, List.all_cons, Bool.and_eq_true, decide_eq_true_eq] at h
  rw [List.flatMap_cons, fulF_nil _ h.1, ih (by simpa [endB] using h.2)]; rfl
theorem flat_exp1 (l : List Mp) (k : Nat) (xs : List Int) : (exp1 l xs).flatMap (fulF l k) = xs.flatMap (fulF l (k + 1)) := by
 induction xs with
 | nil => rfl
 | cons x r ih =>
  have e : exp1 l (x :: r) = (if findM l x = [] then [x] else findM l x) ++ exp1 l r := by simp [exp1]
  rw [e, List.flatMap_append, ih, List.flatMap_cons]
  congr 1
  by_cases hx : findM l x = []
  ·rw [if_pos hx, fulF_nil _ hx]; simp [fulF_nil k hx]
  ·rw [if_neg hx, fulF, if_neg hx]
theorem fullR_yes {l : List Mp} (hl : l.length ≤ 256) (r : Nat) (xs : List Int) (h : (xs.map (siz l)).sum ≤ 18) (hd : ∀ x ∈ xs, Dp l r x) : fullR l (r + 1) xs = some (xs.flatMap (fulF l r)) := by
 induction r generalizing xs with
 | zero =>
  have he : endB l xs = true := by
   rw [endB, List.all_eq_true]; intro x hx; rw [decide_eq_true_eq]; exact hd x hx
  rw [fullR, if_pos he, flat_nil _ _ he]
 | succ r ih =>
  rw [fullR]
  by_cases he : endB l xs = true
  ·rw [if_pos he, flat_nil _ _ he]
  ·have h1 := sum_exp1 hl xs
   have h2 := sum_siz_pos l (exp1 l xs)
   rw [if_neg he, if_neg (by omega), ih (exp1 l xs) (by omega) ?_, flat_exp1]
   intro y hy
   simp only [exp1, List.mem_flatMap] at hy
   obtain ⟨x, hx, hy⟩ := hy
   by_cases hf : findM l x = []
   ·rw [if_pos hf, List.mem_singleton] at hy; subst hy; exact Dp.nil _ hf
   ·rw [if_neg hf] at hy; exact hd x hx y hy
theorem full_eq {l : List Mp} (hl : l.length ≤ 256) (c : Int) : fullR l 257 [c] = if siz l c ≤ 18 then some (ful l c) else none := by
 by_cases h : siz l c ≤ 18
 ·rw [if_pos h, fullR_yes hl 256 [c] (by simpa using h) (by intro x hx; rw [List.mem_singleton] at hx; subst hx; exact siz_dp hl h)]
  simp [ful]
 ·have := siz_bd l c
  rw [if_neg h, fullR_no hl 257 [c] (by simp; omega) (by simp)]
theorem fulF_ne (l : List Mp) (k : Nat) (c : Int) : fulF l k c ≠ [] := by
 induction k generalizing c with
 | zero => simp [fulF]
 | succ k ih =>
  by_cases h : findM l c = []
  ·rw [fulF_nil _ h]; simp
  ·rw [fulF, if_neg h]
   cases hc : findM l c with
   | nil => exact absurd hc h
   | cons x r => simp [ih x]
def lastF (l : List Mp) (c : Int) : Int := (ful l c).getLastD 0
theorem lastF_nil {l : List Mp} {c : Int} (h : findM l c = []) : lastF l c = c := by rw [lastF, ful_nil h]; rfl
theorem lastF_two {l : List Mp} {c a b : Int} (hd : Dp l 256 c) (h : findM l c = [a, b]) (hb : findM l b = []) : lastF l c = b := by
 rw [lastF, ful_eq hd (by rw [h]; simp), h]
 simp only [List.flatMap_cons, List.flatMap_nil, List.append_nil, ful_nil hb]
 simp [List.getLastD_eq_getLast?]
def cmpF (T : Tb) : Nat → Int → Bool
 | 0, _ => false
 | k + 1, c => match findM T.dec c with
  | [a, b] => !excT T c && (decide (clsT T c = 0) && (decide (clsT T a = 0) && (!hasM T.dec b && ((!hasM T.dec a || cmpF T k a) && (decide (clsT T b = 0) || decide (clsT T (lastF T.dec a) ≤ clsT T b))))))
  | _ => false
def compT (T : Tb) (c : Int) : Bool := cmpF T 257 c
theorem cmpF_dp {T : Tb} {k : Nat} {c : Int} (h : Dp T.dec k c) : cmpF T (k + 2) c = cmpF T (k + 1) c := by
 induction k generalizing c with
 | zero =>
  have h0 : findM T.dec c = [] := h
  rw [cmpF, cmpF, h0]
 | succ k ih =>
  rw [cmpF]
  conv => rhs; rw [cmpF]
  cases hf : findM T.dec c with
  | nil => rfl
  | cons a r =>
   cases r with
   | nil => rfl
   | cons b r =>
    cases r with
    | nil => simp only; rw [ih (h a (by rw [hf]; simp))]
    | cons _ _ => rfl
theorem compT_two {T : Tb} {c a b : Int} (h : Dp T.dec 256 c) (hf : findM T.dec c = [a, b]) :
 compT T c = (!excT T c && (decide (clsT T c = 0) && (decide (clsT T a = 0) && (!hasM T.dec b && ((!hasM T.dec a || compT T a) && (decide (clsT T b = 0) || decide (clsT T (lastF T.dec a) ≤ clsT T b))))))) := by
 have := cmpF_dp h
 unfold compT
 rw [← this, cmpF, hf]
theorem compT_not {T : Tb} {c : Int} (h : (findM T.dec c).length ≠ 2) : compT T c = false := by
 unfold compT
 rw [cmpF]
 cases hf : findM T.dec c with
 | nil => rfl
 | cons a r =>
  cases r with
  | nil => rfl
  | cons b r =>
   cases r with
   | nil => rw [hf] at h; simp at h
   | cons _ _ => rfl
def r6 (T : Tb) : Bool := T.dec.all short2 && T.dec.all fun m => decide (siz T.dec m.1 ≤ 18)
def r7 (T : Tb) : Bool := T.exc.all (hasM T.dec)
def cmpTos (T : Tb) (l : List Mp) : List (List Int) := (l.filter fun m => compT T m.1).map (·.2)
def r8 (T : Tb) : Bool := decide (cmpTos T T.dec).Nodup
def plain (T : Tb) (c : Int) : Bool := !hasM T.dec c && !ignT T c
def proOk (T : Tb) (m : Mp) : Bool := plain T m.1 && m.2.all fun c => !hasM T.pro c && (!sylB c && plain T c)
def r9 (T : Tb) : Bool := T.pro.all (proOk T)
def checkT (T : Tb) : Int :=
 if r1 T = false then 1 else if r2 T = false then 2 else if r3 T = false then 3 else if r4 T = false then 4 else if r5 T = false then 5 else if r6 T = false then 6 else if r7 T = false then 7 else if r8 T = false then 8 else if r9 T = false then 9 else 0
open Go.RowKit
abbrev mp0 : Mp := (0, [])
def InV (w : World) (v : Value) (l : List Int) : Prop := ∃ p c, v = .slice p l.length c ∧ IntsIn w p l ∧ l.length ≤ 17592186043904
def SpV (w : World) (v : Value) (l : List Sp) : Prop := ∃ p c, v = .slice p l.length c ∧ SpIn w p l ∧ l.length ≤ 17592186043904
def MpIn (w : World) (p : Option Addr) (l : List Mp) : Prop :=
 ∀ k, k < l.length → ∃ b off v, p = some ⟨b, off, none⟩ ∧ w.cell? ⟨b, off + k * 2, none⟩ = some (.int .i64 (l.getD k mp0).1) ∧ w.cell? ⟨b, off + k * 2 + 1, none⟩ = some v ∧ InV w v (l.getD k mp0).2
def MpV (w : World) (v : Value) (l : List Mp) : Prop := ∃ p c, v = .slice p l.length c ∧ MpIn w p l ∧ l.length ≤ 17592186043904
theorem InV.below {w w' : World} {v : Value} {l : List Int} (h : InV w v l) (hb : Below w.heap.size w w') : InV w' v l := by
 obtain ⟨p, c, rfl, h1, h2⟩ := h
 exact ⟨p, c, rfl, h1.below hb, h2⟩
theorem SpV.below {w w' : World} {v : Value} {l : List Sp} (h : SpV w v l) (hb : Below w.heap.size w w') : SpV w' v l := by
 obtain ⟨p, c, rfl, h1, h2⟩ := h
 exact ⟨p, c, rfl, h1.below hb, h2⟩
theorem MpIn.below {w w' : World} {p : Option Addr} {l : List Mp} (h : MpIn w p l) (hb : Below w.heap.size w w') : MpIn w' p l := by
 intro k hk
 obtain ⟨b, off, v, e, h1, h2, h3⟩ := h k hk
 have hlt := World.block_lt_of_cell? w _ h1
 exact ⟨b, off, v, e, (hb.cell (p := ⟨b, off + k * 2, none⟩) hlt).trans h1, (hb.cell (p := ⟨b, off + k * 2 + 1, none⟩) hlt).trans h2, h3.below hb⟩
theorem MpV.below {w w' : World} {v : Value} {l : List Mp} (h : MpV w v l) (hb : Below w.heap.size w w') : MpV w' v l := by
 obtain ⟨p, c, rfl, h1, h2⟩ := h
 exact ⟨p, c, rfl, h1.below hb, h2⟩
structure TV where
 a0 : Value
 a1 : Value
 a2 : Value
 a3 : Value
 a4 : Value
 a5 : Value
 a6 : Value
 a7 : Value
 a8 : Value
 a9 : Value
 a10 : Value
 a11 : Value
abbrev TV.agg (x : TV) : Value := .agg #[x.a0, x.a1, x.a2, x.a3, x.a4, x.a5, x.a6, x.a7, x.a8, x.a9, x.a10, x.a11]
structure TabV (w : World) (x : TV) (T : Tb) : Prop where
 cat : SpV w x.a0 T.cat
 cls : SpV w x.a1 T.cls
 joi : SpV w x.a2 T.joi
 bid : SpV w x.a3 T.bid
 scr : SpV w x.a4 T.scr
 sta : SpV w x.a5 T.sta
 ign : SpV w x.a6 T.ign
 ext : MpV w x.a7 T.ext
 map : MpV w x.a8 T.map
 dec : MpV w x.a9 T.dec
 exc : InV w x.a10 T.exc
 pro : MpV w x.a11 T.pro
theorem TabV.below {w w' : World} {x : TV} {T : Tb} (h : TabV w x T) (hb : Below w.heap.size w w') : TabV w' x T :=
 ⟨h.cat.below hb, h.cls.below hb, h.joi.below hb, h.bid.below hb, h.scr.below hb, h.sta.below hb, h.ign.below hb, h.ext.below hb, h.map.below hb, h.dec.below hb, h.exc.below hb, h.pro.below hb⟩
theorem TabV.alloc {w : World} {x : TV} {T : Tb} (h : TabV w x T) (o : Obj) : TabV (w.alloc o) x T := h.below ((Below.refl _ _).alloc (Nat.le_refl _) o)
def BoxT (w : World) (g : Nat) (x : TV) : Prop :=
 (w.cell? ⟨g, 0, none⟩ = some x.a0 ∧ w.cell? ⟨g, 1, none⟩ = some x.a1 ∧ w.cell? ⟨g, 2, none⟩ = some x.a2 ∧ w.cell? ⟨g, 3, none⟩ = some x.a3 ∧ w.cell? ⟨g, 4, none⟩ = some x.a4 ∧ w.cell? ⟨g, 5, none⟩ = some x.a5) ∧
 (w.cell? ⟨g, 6, none⟩ = some x.a6 ∧ w.cell? ⟨g, 7, none⟩ = some x.a7 ∧ w.cell? ⟨g, 8, none⟩ = some x.a8 ∧ w.cell? ⟨g, 9, none⟩ = some x.a9 ∧ w.cell? ⟨g, 10, none⟩ = some x.a10 ∧ w.cell? ⟨g, 11, none⟩ = some x.a11)
abbrev tabCells (x : TV) : Array Value := #[x.a0, x.a1, x.a2, x.a3, x.a4, x.a5, x.a6, x.a7, x.a8, x.a9, x.a10, x.a11]
theorem BoxT.new (w : World) (x : TV) (t : TypeId) : BoxT (w.alloc (.cells (tabCells x) t)) w.heap.size x := by
 refine ⟨⟨?_, ?_, ?_, ?_, ?_, ?_⟩, ⟨?_, ?_, ?_, ?_, ?_, ?_⟩⟩ <;> simp [World.cell?_alloc_new]
theorem BoxT.below {w w' : World} {g : Nat} {x : TV} (h : BoxT w g x) (hb : Below w.heap.size w w') : BoxT w' g x := by
 obtain ⟨⟨h0, h1, h2, h3, h4, h5⟩, ⟨h6, h7, h8, h9, h10, h11⟩⟩ := h
 have key : ∀ i v, w.cell? ⟨g, i, none⟩ = some v → w'.cell? ⟨g, i, none⟩ = some v := fun i v hc => (hb.cell (p := ⟨g, i, none⟩) (World.block_lt_of_cell? w _ hc)).trans hc
 exact ⟨⟨key _ _ h0, key _ _ h1, key _ _ h2, key _ _ h3, key _ _ h4, key _ _ h5⟩, ⟨key _ _ h6, key _ _ h7, key _ _ h8, key _ _ h9, key _ _ h10, key _ _ h11⟩⟩
def BoxM (w : World) (g : Nat) (f : Int) (v : Value) : Prop := w.cell? ⟨g, 0, none⟩ = some (.int .i64 f) ∧ w.cell? ⟨g, 1, none⟩ = some v
theorem BoxM.new (w : World) (f : Int) (v : Value) (t : TypeId) : BoxM (w.alloc (.cells #[.int .i64 f, v] t)) w.heap.size f v := by
 refine ⟨?_, ?_⟩ <;> simp [World.cell?_alloc_new]
theorem BoxM.below {w w' : World} {g : Nat} {f : Int} {v : Value} (h : BoxM w g f v) (hb : Below w.heap.size w w') : BoxM w' g f v := by
 obtain ⟨h0, h1⟩ := h
 exact ⟨(hb.cell (p := ⟨g, 0, none⟩) (World.block_lt_of_cell? w _ h0)).trans h0, (hb.cell (p := ⟨g, 1, none⟩) (World.block_lt_of_cell? w _ h1)).trans h1⟩
theorem mp_getD_mem (l : List Mp) (k : Nat) (h : k < l.length) : l.getD k mp0 ∈ l := by simp [h]
theorem take_snoc_mp (l : List Mp) (k : Nat) (h : k < l.length) : l.take (k + 1) = l.take k ++ [l.getD k mp0] := by
 rw [List.take_succ_eq_append_getElem h]; simp [h]
def Rsv (w : World) : Prop :=
 (w.cell? ⟨0, 0, none⟩ = some (.int .i64 0) ∧ w.cell? ⟨0, 1, none⟩ = some (.int .i64 127) ∧ w.cell? ⟨0, 2, none⟩ = some (.int .i64 4352) ∧ w.cell? ⟨0, 3, none⟩ = some (.int .i64 4370) ∧ w.cell? ⟨0, 4, none⟩ = some (.int .i64 4449) ∧ w.cell? ⟨0, 5, none⟩ = some (.int .i64 4469)) ∧
 (w.cell? ⟨0, 6, none⟩ = some (.int .i64 4520) ∧ w.cell? ⟨0, 7, none⟩ = some (.int .i64 4546) ∧ w.cell? ⟨0, 8, none⟩ = some (.int .i64 44032) ∧ w.cell? ⟨0, 9, none⟩ = some (.int .i64 55203) ∧ w.cell? ⟨0, 10, none⟩ = some (.int .i64 55296) ∧ w.cell? ⟨0, 11, none⟩ = some (.int .i64 57343))
theorem Rsv.below {w w' : World} (h : Rsv w) (hb : Below w.heap.size w w') : Rsv w' := by
 obtain ⟨⟨h0, h1, h2, h3, h4, h5⟩, ⟨h6, h7, h8, h9, h10, h11⟩⟩ := h
 have key : ∀ i v, w.cell? ⟨0, i, none⟩ = some v → w'.cell? ⟨0, i, none⟩ = some v := fun i v hc => (hb.cell (p := ⟨0, i, none⟩) (World.block_lt_of_cell? w _ hc)).trans hc
 exact ⟨⟨key _ _ h0, key _ _ h1, key _ _ h2, key _ _ h3, key _ _ h4, key _ _ h5⟩, ⟨key _ _ h6, key _ _ h7, key _ _ h8, key _ _ h9, key _ _ h10, key _ _ h11⟩⟩
def Gives (v : Value) (w : World) (e : Ending) (w' : World) : Prop := e = .returned v ∧ Below w.heap.size w w'
theorem drew_ref (w : World) (n : Nat) : Below w.heap.size w (w.drewN n) := ⟨rfl, rfl, rfl, Nat.le_refl _, fun _ _ => rfl⟩
abbrev rsvV : Value := .agg #[.int .i64 0, .int .i64 127, .int .i64 4352, .int .i64 4370, .int .i64 4449, .int .i64 4469, .int .i64 4520, .int .i64 4546, .int .i64 44032, .int .i64 55203, .int .i64 55296, .int .i64 57343]
def rsvL : List (Int × Int) := [(0, 127), (4352, 4370), (4449, 4469), (4520, 4546), (44032, 55203), (55296, 57343)]
def hitB (f t : Int) (r : Int × Int) : Bool := meets f t r.1 r.2
theorem rsv_all (f t : Int) : resF f t = rsvL.any (hitB f t) := by
 simp [resF, rsvL, hitB]
theorem rsv_index (k : Nat) (hk : k < 6) (w : World) :
 (Instr.index 143 rsvV (.int .i64 k)).run Tryz.prog w = .ok (.agg #[.int .i64 (rsvL.getD k (0, 0)).1, .int .i64 (rsvL.getD k (0, 0)).2]) w := by
 have h : k = 0 ∨ k = 1 ∨ k = 2 ∨ k = 3 ∨ k = 4 ∨ k = 5 := by omega
 rcases h with rfl | rfl | rfl | rfl | rfl | rfl
 ·exact (show (Instr.index 143 rsvV (.int .i64 0)).run Tryz.prog w = .ok (.agg #[.int .i64 0, .int .i64 127]) w by kernel_rfl)
 ·exact (show (Instr.index 143 rsvV (.int .i64 1)).run Tryz.prog w = .ok (.agg #[.int .i64 4352, .int .i64 4370]) w by kernel_rfl)
 ·exact (show (Instr.index 143 rsvV (.int .i64 2)).run Tryz.prog w = .ok (.agg #[.int .i64 4449, .int .i64 4469]) w by kernel_rfl)
 ·exact (show (Instr.index 143 rsvV (.int .i64 3)).run Tryz.prog w = .ok (.agg #[.int .i64 4520, .int .i64 4546]) w by kernel_rfl)
 ·exact (show (Instr.index 143 rsvV (.int .i64 4)).run Tryz.prog w = .ok (.agg #[.int .i64 44032, .int .i64 55203]) w by kernel_rfl)
 ·exact (show (Instr.index 143 rsvV (.int .i64 5)).run Tryz.prog w = .ok (.agg #[.int .i64 55296, .int .i64 57343]) w by kernel_rfl)
theorem any_take_snoc {α : Type} (p : α → Bool) (l : List α) (k : Nat) (d : α) (hk : k < l.length) : (l.take (k + 1)).any p = ((l.take k).any p || p (l.getD k d)) := by
 rw [List.take_succ_eq_append_getElem hk, List.any_append, List.any_cons, List.any_nil, Bool.or_false]
 simp [hk]
theorem any_of_take {α : Type} (p : α → Bool) (l : List α) (k : Nat) (h : (l.take k).any p = true) : l.any p = true := by
 rw [List.any_eq_true] at h ⊢
 obtain ⟨x, hx, hp⟩ := h
 exact ⟨x, List.mem_of_mem_take hx, hp⟩
theorem all_take_snoc {α : Type} (p : α → Bool) (l : List α) (k : Nat) (d : α) (hk : k < l.length) : (l.take (k + 1)).all p = ((l.take k).all p && p (l.getD k d)) := by
 rw [List.take_succ_eq_append_getElem hk, List.all_append, List.all_cons, List.all_nil, Bool.and_true]
 simp [hk]
theorem all_of_take {α : Type} (p : α → Bool) (l : List α) (k : Nat) (h : (l.take k).all p = false) : l.all p = false := by
 rw [← Bool.not_eq_true, List.all_eq_true] at h ⊢
 exact fun h' => h fun x hx => h' x (List.mem_of_mem_take hx)
set_option maxHeartbeats 1000000 in
theorem conRes_any (f t : Int) (w : World) (hr : Rsv w) :
 Calls Tryz.prog 155 #[.int .i64 f, .int .i64 t] w (Gives (.bool (resF f t)) w) := by
 have HA := Lib.hid (rsv_all f t)
 obtain ⟨⟨h0, h1, h2, h3, h4, h5⟩, ⟨h6, h7, h8, h9, h10, h11⟩⟩ := hr
 go_enter Tryz.func155, Tryz.ntmps155
 go_wp2
 go_loopw [8] (fun i wr => ∃ k : Nat, k ≤ 6 ∧ i = .int .i64 k ∧ Hid ((rsvL.take k).any (hitB f t) = false) ∧ Hid (Below w.heap.size w wr)) (fun i _ => 6 - (intOf i).toNat)
 case atStart => exact ⟨0, by omega, rfl, rfl, Below.refl _ _⟩
 case round =>
  clear h0 h1 h2 h3 h4 h5 h6 h7 h8 h9 h10 h11
  obtain ⟨k, hk, rfl, hno, hb⟩ := hrel
  by_cases hlt : k < 6
  ·have hix := rsv_index k hlt
   have hsn := any_take_snoc (hitB f t) rsvL k (0, 0) (by simpa [rsvL] using hlt)
   rw [hno.out, Bool.false_or] at hsn
   obtain ⟨⟨a, b⟩, hab⟩ : ∃ r, rsvL.getD k (0, 0) = r := ⟨_, rfl⟩
   rw [hab] at hix hsn
   simp only [hitB, meets] at hsn
   simp only at hix
   have HS := Lib.hid hsn
   clear hsn hab
   by_cases h1 : f ≤ b
   ·by_cases h2 : a ≤ t
    ·have HR : Hid (resF f t = true) := by
      unfold Hid; rw [HA.out]; exact any_of_take _ _ (k + 1) (by rw [HS.out]; simp [h1, h2])
     go_wp2
     go_ret
     rw [HR.out]
     exact ⟨rfl, hb.out.alloc hb.out.size _⟩
    ·have HN : Hid ((rsvL.take (k + 1)).any (hitB f t) = false) := by unfold Hid; rw [HS.out]; simp [h2]
     have d2 : decide (a ≤ t) = false := decide_eq_false h2
     go_wp2
     go_roundw
     case rel => exact ⟨k + 1, by omega, by go_num, HN, hb.out.alloc hb.out.size _⟩
     case measure => simp [intOf]; omega
   ·have HN : Hid ((rsvL.take (k + 1)).any (hitB f t) = false) := by unfold Hid; rw [HS.out]; simp [h1]
    have d2 : decide (f ≤ b) = false := decide_eq_false h1
    go_wp2
    go_roundw
    case rel => exact ⟨k + 1, by omega, by go_num, HN, hb.out.alloc hb.out.size _⟩
    case measure => simp [intOf]; omega
  ·obtain rfl : k = 6 := by omega
   have HR : Hid (resF f t = false) := by unfold Hid; rw [HA.out]; exact hno.out
   go_wp2
   go_ret
   rw [HR.out]
   exact ⟨rfl, hb.out⟩
theorem conRes_at (f t : Int) (B : Bool) (w : World) (hr : Rsv w) (hB : Hid (resF f t = B)) :
 Calls Tryz.prog 155 #[.int .i64 f, .int .i64 t] w (Gives (.bool B) w) := hB.out ▸ conRes_any f t w hr
theorem isRes_any (c : Int) (w : World) (hr : Rsv w) : Calls Tryz.prog 158 #[.int .i64 c] w (Gives (.bool (resB c)) w) := by
 have HR := Lib.hid hr
 obtain ⟨B, hB⟩ : ∃ B, Hid (resF c c = B) := ⟨_, rfl⟩
 have HB : Hid (resB c = B) := hB
 clear hr
 go_enter Tryz.func158, Tryz.ntmps158
 go_wp2_with fail
 refine (conRes_at c c B _ HR.out hB).mono ?_
 rintro e w1 ⟨rfl, hb⟩
 have HB1 := Lib.hid hb
 clear hb
 go_wp2
 go_ret
 rw [HB.out]
 exact ⟨rfl, HB1.out⟩
theorem isRes_at (c : Int) (B : Bool) (w : World) (hr : Rsv w) (hB : Hid (resB c = B)) : Calls Tryz.prog 158 #[.int .i64 c] w (Gives (.bool B) w) := hB.out ▸ isRes_any c w hr
theorem low_any (c : Int) (w : World) : Calls Tryz.prog 87 #[.int .i64 c] w fun e w' => e = .returned (.bool (lowB c)) ∧ w = w' := by
 by_cases h1 : 97 ≤ c
 ·by_cases h2 : c ≤ 122
  ·have HB : Hid (lowB c = true) := lowB_iff.2 ⟨h1, h2⟩
   go_enter Tryz.func87, Tryz.ntmps87
   go_wp2
   go_ret
   rw [HB.out]
   exact ⟨rfl, rfl⟩
  ·have HB : Hid (lowB c = false) := by unfold Hid lowB; simp [h2]
   have d2 : decide (c ≤ 122) = false := decide_eq_false h2
   go_enter Tryz.func87, Tryz.ntmps87
   go_wp2
   go_ret
   rw [HB.out]
   exact ⟨rfl, rfl⟩
 ·have HB : Hid (lowB c = false) := by unfold Hid lowB; simp [h1]
  have d2 : decide (97 ≤ c) = false := decide_eq_false h1
  go_enter Tryz.func87, Tryz.ntmps87
  go_wp2
  go_ret
  rw [HB.out]
  exact ⟨rfl, rfl⟩
end Go.Proofs.YtopaojjodkoidaaGreatDoor
