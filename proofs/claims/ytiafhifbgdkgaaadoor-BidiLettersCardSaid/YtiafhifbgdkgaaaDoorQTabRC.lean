/-
  The references of table: rule 2.
-/
import Derived.Test.YtiafhifbgdkgaaaDoorQTabH
import Derived.Test.YtiafhifbgdkgaaaDoorQRanRefChk
import Derived.Deep.DeepCutAuto
import Derived.Deep.QuietTactic
import Derived.BigQuiet
set_option linter.unusedSimpArgs false
set_option linter.unusedVariables false
namespace Go.Proofs.YtiafhifbgdkgaaaDoor
open Go.RowKit
set_option linter.unusedVariables false

def SevIn (w : World) (g : Nat) (x : TV) : Prop := ∀ k, k < 7 → w.cell? ⟨g, k, none⟩ = some (spVal x k)
def FourIn (w : World) (g : Nat) (x : TV) : Prop := ∀ k, k < 4 → w.cell? ⟨g, k, none⟩ = some (mpVal x k)
theorem SevIn.below {w w' : World} {g : Nat} {x : TV} (h : SevIn w g x) (hb : Below w.heap.size w w') : SevIn w' g x := fun k hk => (hb.cell (p := ⟨g, k, none⟩) (World.block_lt_of_cell? w _ (h k hk))).trans (h k hk)
theorem FourIn.below {w w' : World} {g : Nat} {x : TV} (h : FourIn w g x) (hb : Below w.heap.size w w') : FourIn w' g x := fun k hk => (hb.cell (p := ⟨g, k, none⟩) (World.block_lt_of_cell? w _ (h k hk))).trans (h k hk)

theorem lit_ints (w : World) (C : Array Value) (xs : List Int) (t : TypeId) (h : C.toList = xs.map (.int .i64)) : IntsIn (w.alloc (.cells C t)) (some ⟨w.heap.size, 0, none⟩) xs := by
  intro k hk
  refine ⟨_, _, rfl, ?_⟩
  rw [Nat.zero_add, World.cell?_alloc_new, ← Array.getElem?_toList, h]
  simp [hk]

def mostL : List Int := [8, 254, 5, 11, 60, 4, 1]

def SpansPost (x : TV) (w : World) (e : Ending) (w' : World) : Prop :=
  ∃ g h, e = .returned (.tuple #[.slice (some ⟨g, 0, none⟩) 7 7, .slice (some ⟨h, 0, none⟩) 7 7]) ∧ SevIn w' g x ∧ IntsIn w' (some ⟨h, 0, none⟩) mostL ∧ Below w.heap.size w w'

def MapsPost (x : TV) (w : World) (e : Ending) (w' : World) : Prop :=
  ∃ g, e = .returned (.slice (some ⟨g, 0, none⟩) 4 4) ∧ FourIn w' g x ∧ Below w.heap.size w w'

/-- The k-th list as the references find it. -/
theorem SevIn.at_ {w0 w : World} {g : Nat} {x : TV} {T : Tb} (h : SevIn w g x) (ht : TabV w0 x T) (k : Nat) (hk : k < 7) :
    ∃ p n c l, (spansT T).getD k [] = l ∧ l.length = n ∧ n ≤ 17592186043904 ∧ SpIn w0 p l ∧ w.cell? ⟨g, k, none⟩ = some (.slice p n c) := by
  obtain ⟨p, c, e, h1, h2⟩ := ht.sp k hk
  exact ⟨p, _, c, _, rfl, rfl, h2, h1, by rw [h k hk, e]⟩
theorem FourIn.at_ {w0 w : World} {g : Nat} {x : TV} {T : Tb} (h : FourIn w g x) (ht : TabV w0 x T) (k : Nat) (hk : k < 4) :
    ∃ p n c l, (mpsT T).getD k [] = l ∧ l.length = n ∧ n ≤ 17592186043904 ∧ MpIn w0 p l ∧ w.cell? ⟨g, k, none⟩ = some (.slice p n c) := by
  obtain ⟨p, c, e, h1, h2⟩ := ht.mp k hk
  exact ⟨p, _, c, _, rfl, rfl, h2, h1, by rw [h k hk, e]⟩

abbrev clnV : Value := .agg #[.int .i64 0, .int .i64 127, .int .i64 55296, .int .i64 57343, .int .i64 44032, .int .i64 55203, .int .i64 4352, .int .i64 4370, .int .i64 4449, .int .i64 4469, .int .i64 4520, .int .i64 4546]
def clnL : List (Int × Int) := [(0, 127), (55296, 57343), (44032, 55203), (4352, 4370), (4449, 4469), (4520, 4546)]

theorem cln_all (f t : Int) : resF f t = clnL.any (hitB f t) := by
  simp only [resF, clnL, hitB, List.any_cons, List.any_nil, Bool.or_false]
  cases meets f t 0 127 <;> cases meets f t 4352 4370 <;> cases meets f t 4449 4469 <;> cases meets f t 4520 4546 <;> cases meets f t 44032 55203 <;> cases meets f t 55296 57343 <;> rfl

/-- Reserved, as the references ask it of the k-th list of mappings. -/
def rk (k : Nat) (c : Int) : Bool := resB c && !(decide (k = 3) && latB c)
def keyF (k : Nat) (l : List Mp) : Bool := ascI 0 1114111 (froms l) && l.all fun m => !rk k m.1

theorem keyF_res {k : Nat} (hk : k < 3) (l : List Mp) : keyF k l = keyOk (froms l) := by
  unfold keyF keyOk froms
  rw [List.all_map]
  congr 2
  funext m
  simp only [rk, Function.comp, decide_eq_false (show ¬ k = 3 by omega), Bool.false_and, Bool.not_false, Bool.and_true]
theorem keyF_pro (l : List Mp) : keyF 3 l = keyOkP (froms l) := by
  unfold keyF keyOkP froms
  rw [List.all_map]
  congr 1

theorem r2_keys (T : Tb) : r2 T = ((spansT T).all spOk && (keyF 0 T.ext && (keyF 1 T.map && (keyF 2 T.dec && (keyF 3 T.pro && keyOk T.exc))))) := by
  unfold r2
  rw [keyF_res (by omega), keyF_res (by omega), keyF_res (by omega), keyF_pro]

theorem keyF_snoc (k : Nat) (a : List Mp) (m : Mp) : keyF k (a ++ [m]) = true ↔ keyF k a = true ∧ endI 0 (froms a) ≤ m.1 ∧ m.1 ≤ 1114111 ∧ rk k m.1 = false := by
  have e : froms (a ++ [m]) = froms a ++ [m.1] := by simp [froms]
  simp only [keyF, Bool.and_eq_true, e, ascI_snoc, List.all_append, List.all_cons, List.all_nil, Bool.and_true, Bool.not_eq_true']
  constructor
  · rintro ⟨⟨h1, h2, h3⟩, h4, h5⟩; exact ⟨⟨h1, h4⟩, h2, h3, h5⟩
  · rintro ⟨⟨h1, h4⟩, h2, h3, h5⟩; exact ⟨⟨h1, h2, h3⟩, h4, h5⟩
theorem ascI_of_keyF {k : Nat} {l : List Mp} (h : keyF k l = true) : ascI 0 1114111 (froms l) = true := by
  simp only [keyF, Bool.and_eq_true] at h; exact h.1
theorem keyF_prefix {k : Nat} {l : List Mp} (i : Nat) (h : keyF k (l.take i) = false) : keyF k l = false := by
  cases hb : keyF k l with
  | false => rfl
  | true =>
    simp only [keyF, Bool.and_eq_true] at hb
    have h1 := ascI_take i hb.1
    rw [← froms_take] at h1
    have : keyF k (l.take i) = true := by
      simp only [keyF, Bool.and_eq_true]
      exact ⟨h1, List.all_eq_true.2 fun x hx => List.all_eq_true.1 hb.2 x (List.mem_of_mem_take hx)⟩
    rw [this] at h; cases h

theorem keyOk_snoc (a : List Int) (c : Int) : keyOk (a ++ [c]) = true ↔ keyOk a = true ∧ endI 0 a ≤ c ∧ c ≤ 1114111 ∧ resB c = false := by
  simp only [keyOk, Bool.and_eq_true, ascI_snoc, List.all_append, List.all_cons, List.all_nil, Bool.and_true, Bool.not_eq_true']
  constructor
  · rintro ⟨⟨h1, h2, h3⟩, h4, h5⟩; exact ⟨⟨h1, h4⟩, h2, h3, h5⟩
  · rintro ⟨⟨h1, h4⟩, h2, h3, h5⟩; exact ⟨⟨h1, h2, h3⟩, h4, h5⟩
theorem ascI_of_keyOk {l : List Int} (h : keyOk l = true) : ascI 0 1114111 l = true := by
  simp only [keyOk, Bool.and_eq_true] at h; exact h.1
theorem keyOk_prefix {l : List Int} (i : Nat) (h : keyOk (l.take i) = false) : keyOk l = false := by
  cases hb : keyOk l with
  | false => rfl
  | true =>
    simp only [keyOk, Bool.and_eq_true] at hb
    have : keyOk (l.take i) = true := by
      simp only [keyOk, Bool.and_eq_true]
      exact ⟨ascI_take i hb.1, List.all_eq_true.2 fun x hx => List.all_eq_true.1 hb.2 x (List.mem_of_mem_take hx)⟩
    rw [this] at h; cases h

theorem mp_list {T : Tb} (q : (k : Nat) → List Mp → Bool) (h : ∀ j, j < 4 → q j ((mpsT T).getD j []) = true) : q 0 T.ext = true ∧ q 1 T.map = true ∧ q 2 T.dec = true ∧ q 3 T.pro = true :=
  ⟨h 0 (by omega), h 1 (by omega), h 2 (by omega), h 3 (by omega)⟩
theorem mp_bad {T : Tb} {j : Nat} (hj : j < 4) (h : keyF j ((mpsT T).getD j []) = false) : r2 T = false := by
  rw [r2_keys]
  have : j = 0 ∨ j = 1 ∨ j = 2 ∨ j = 3 := by omega
  rcases this with rfl | rfl | rfl | rfl
  · rw [show keyF 0 T.ext = false from h]; simp
  · rw [show keyF 1 T.map = false from h]; simp
  · rw [show keyF 2 T.dec = false from h]; simp
  · rw [show keyF 3 T.pro = false from h]; simp

/-- One mapping's key, as the references test it. -/
def badKey (k : Nat) (lo c : Int) : Prop := c < 0 ∨ 1114111 < c ∨ c < lo ∨ rk k c = true

theorem spOk_snoc (a : List Sp) (s : Sp) : ((a ++ [s]).all fun s => !resF s.1 s.2.1) = ((a.all fun s => !resF s.1 s.2.1) && !resF s.1 s.2.1) := by simp

end Go.Proofs.YtiafhifbgdkgaaaDoor
