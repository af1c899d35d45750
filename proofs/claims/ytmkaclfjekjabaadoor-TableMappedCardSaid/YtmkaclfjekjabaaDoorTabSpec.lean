/-
  Tables, plain mathematics: the properties of a code point, the sizes of full decompositions, composable decompositions, the nine rules.
-/
import Derived.Test.YtmkaclfjekjabaaDoorRanSpec
namespace Go.Proofs.YtmkaclfjekjabaaDoor

abbrev Mp := Int × List Int

/-- Tables, as lists. -/
structure Tb where
  cat : List Sp
  cls : List Sp
  joi : List Sp
  bid : List Sp
  scr : List Sp
  sta : List Sp
  ign : List Sp
  ext : List Mp
  map : List Mp
  dec : List Mp
  exc : List Int
  pro : List Mp

/-- What a list maps c to; nothing if it says nothing. -/
def findM : List Mp → Int → List Int
  | [], _ => []
  | m :: r, c => if m.1 = c then m.2 else findM r c

def hasM (l : List Mp) (c : Int) : Bool := l.any fun m => decide (m.1 = c)

theorem findM_nil {l : List Mp} {c : Int} (h : hasM l c = false) : findM l c = [] := by
  induction l with
  | nil => rfl
  | cons m r ih =>
    simp only [hasM, List.any_cons, Bool.or_eq_false_iff, decide_eq_false_iff_not] at h
    rw [findM, if_neg h.1]; exact ih h.2

theorem hasM_iff {l : List Mp} {c : Int} : hasM l c = true ↔ ∃ m ∈ l, m.1 = c := by
  simp [hasM]

theorem findM_has {l : List Mp} {c : Int} (h : hasM l c = true) : (c, findM l c) ∈ l := by
  induction l with
  | nil => simp [hasM] at h
  | cons m r ih =>
    by_cases hm : m.1 = c
    · rw [findM, if_pos hm, ← hm]; exact List.mem_cons_self
    · rw [findM, if_neg hm]
      have : hasM r c = true := by
        simp only [hasM, List.any_cons, Bool.or_eq_true, decide_eq_true_eq] at h
        exact h.resolve_left hm
      exact List.mem_cons_of_mem _ (ih this)

/-- Ascending, from lo to hi. -/
def ascI (lo hi : Int) : List Int → Bool
  | [] => true
  | v :: r => decide (lo ≤ v) && (decide (v ≤ hi) && ascI (v + 1) hi r)

def endI (lo : Int) : List Int → Int
  | [] => lo
  | v :: r => endI (v + 1) r

theorem ascI_cons {lo hi v : Int} {r : List Int} : ascI lo hi (v :: r) = true ↔ lo ≤ v ∧ v ≤ hi ∧ ascI (v + 1) hi r = true := by simp [ascI]

theorem ascI_append {lo hi : Int} {a b : List Int} : ascI lo hi (a ++ b) = true ↔ ascI lo hi a = true ∧ ascI (endI lo a) hi b = true := by
  induction a generalizing lo with
  | nil => simp [ascI, endI]
  | cons v r ih => simp only [List.cons_append, ascI_cons, ih, endI, and_assoc]

theorem endI_append (lo : Int) (a b : List Int) : endI lo (a ++ b) = endI (endI lo a) b := by
  induction a generalizing lo with
  | nil => rfl
  | cons v r ih => exact ih _

theorem ascI_snoc {lo hi v : Int} {a : List Int} : ascI lo hi (a ++ [v]) = true ↔ ascI lo hi a = true ∧ endI lo a ≤ v ∧ v ≤ hi := by
  rw [ascI_append, ascI_cons]; simp [ascI]

theorem endI_snoc (lo v : Int) (a : List Int) : endI lo (a ++ [v]) = v + 1 := by rw [endI_append]; rfl

theorem endI_ge {lo hi : Int} {a : List Int} (h : ascI lo hi a = true) : lo ≤ endI lo a := by
  induction a generalizing lo with
  | nil => exact Int.le_refl _
  | cons v r ih => rw [ascI_cons] at h; have := ih h.2.2; simp only [endI]; omega

theorem ascI_mem {lo hi : Int} {a : List Int} (h : ascI lo hi a = true) {v : Int} (hv : v ∈ a) : lo ≤ v ∧ v ≤ hi ∧ v < endI lo a := by
  induction a generalizing lo with
  | nil => cases hv
  | cons u r ih =>
    rw [ascI_cons] at h
    have h2 := endI_ge h.2.2
    rcases List.mem_cons.1 hv with rfl | hv
    · simp only [endI]; omega
    · have := ih h.2.2 hv
      simp only [endI]; omega

theorem ascI_take {lo hi : Int} {a : List Int} (k : Nat) (h : ascI lo hi a = true) : ascI lo hi (a.take k) = true := by
  rw [← List.take_append_drop k a, ascI_append] at h; exact h.1

theorem ascI_prefix {lo hi : Int} {a : List Int} (k : Nat) (h : ascI lo hi (a.take k) = false) : ascI lo hi a = false := by
  cases hb : ascI lo hi a with
  | false => rfl
  | true => rw [ascI_take k hb] at h; cases h

theorem ascI_nodup {lo hi : Int} {a : List Int} (h : ascI lo hi a = true) : a.Nodup := by
  induction a generalizing lo with
  | nil => exact List.nodup_nil
  | cons v r ih =>
    rw [ascI_cons] at h
    rw [List.nodup_cons]
    refine ⟨fun hv => ?_, ih h.2.2⟩
    have := (ascI_mem h.2.2 hv).1
    omega

/-- In an ascending list what stands before place k is less, what stands behind is greater. -/
theorem ascI_mono {lo hi : Int} {a : List Int} (h : ascI lo hi a = true) (k : Nat) (hk : k < a.length) :
    (∀ v ∈ a.take k, v < a.getD k 0) ∧ ∀ v ∈ a.drop (k + 1), a.getD k 0 < v := by
  have e : a = a.take k ++ (a.getD k 0 :: a.drop (k + 1)) := by
    have : a.getD k 0 = a[k] := by simp [hk]
    rw [this, ← List.drop_eq_getElem_cons hk, List.take_append_drop]
  rw [e] at h
  rw [ascI_append, ascI_cons] at h
  refine ⟨fun v hv => ?_, fun v hv => ?_⟩
  · have := (ascI_mem h.1 hv).2.2; omega
  · have := (ascI_mem h.2.2.2 hv).1; omega

/-- The code points that tables say nothing about. -/
def sylB (c : Int) : Bool := decide (44032 ≤ c) && decide (c ≤ 55203)
def jamB (c : Int) : Bool := decide (4352 ≤ c) && decide (c ≤ 4370) || decide (4449 ≤ c) && decide (c ≤ 4469) || decide (4520 ≤ c) && decide (c ≤ 4546)
def meets (f t a b : Int) : Bool := decide (f ≤ b) && decide (a ≤ t)
def resF (f t : Int) : Bool := meets f t 0 127 || (meets f t 4352 4370 || (meets f t 4449 4469 || (meets f t 4520 4546 || (meets f t 44032 55203 || meets f t 55296 57343))))
def resB (c : Int) : Bool := resF c c
def lowB (c : Int) : Bool := decide (97 ≤ c) && decide (c ≤ 122)
def uppB (c : Int) : Bool := decide (65 ≤ c) && decide (c ≤ 90)
def digB (c : Int) : Bool := decide (48 ≤ c) && decide (c ≤ 57)
def latB (c : Int) : Bool := lowB c || digB c || decide (c = 45)
def resP (c : Int) : Bool := resB c && !latB c

theorem sylB_iff {c : Int} : sylB c = true ↔ 44032 ≤ c ∧ c ≤ 55203 := by simp [sylB]
theorem jamB_iff {c : Int} : jamB c = true ↔ (4352 ≤ c ∧ c ≤ 4370) ∨ (4449 ≤ c ∧ c ≤ 4469) ∨ (4520 ≤ c ∧ c ≤ 4546) := by simp [jamB, or_assoc]
theorem lowB_iff {c : Int} : lowB c = true ↔ 97 ≤ c ∧ c ≤ 122 := by simp [lowB]
theorem uppB_iff {c : Int} : uppB c = true ↔ 65 ≤ c ∧ c ≤ 90 := by simp [uppB]
theorem digB_iff {c : Int} : digB c = true ↔ 48 ≤ c ∧ c ≤ 57 := by simp [digB]
theorem latB_iff {c : Int} : latB c = true ↔ (97 ≤ c ∧ c ≤ 122) ∨ (48 ≤ c ∧ c ≤ 57) ∨ c = 45 := by simp [latB, lowB_iff, digB_iff, or_assoc]
theorem resF_iff {f t : Int} : resF f t = true ↔ (f ≤ 127 ∧ 0 ≤ t) ∨ (f ≤ 4370 ∧ 4352 ≤ t) ∨ (f ≤ 4469 ∧ 4449 ≤ t) ∨ (f ≤ 4546 ∧ 4520 ≤ t) ∨ (f ≤ 55203 ∧ 44032 ≤ t) ∨ (f ≤ 57343 ∧ 55296 ≤ t) := by simp [resF, meets]
theorem resB_iff {c : Int} : resB c = true ↔ (c ≤ 127 ∧ 0 ≤ c) ∨ (c ≤ 4370 ∧ 4352 ≤ c) ∨ (c ≤ 4469 ∧ 4449 ≤ c) ∨ (c ≤ 4546 ∧ 4520 ≤ c) ∨ (c ≤ 55203 ∧ 44032 ≤ c) ∨ (c ≤ 57343 ∧ 55296 ≤ c) := resF_iff

/-- The fixed properties. -/
def fixC (c : Int) : Int :=
  if lowB c || uppB c || sylB c || jamB c then 1 else if digB c then 3 else if 0 ≤ c ∧ c < 32 ∨ c = 127 then 8 else if c = 32 then 7 else if 32 < c ∧ c < 127 then 5 else 0
def fixB (c : Int) : Int :=
  if lowB c || uppB c then 0 else if digB c then 4 else if c = 45 then 5 else if c = 46 then 6 else if 0 ≤ c ∧ c ≤ 32 ∨ c = 127 then 11 else if 32 < c ∧ c < 127 then 8 else 0
def fixS (c : Int) : Int := if lowB c || uppB c then 3 else if 0 ≤ c ∧ c ≤ 127 then 1 else if sylB c || jamB c then 9 else 0
def fixT (c : Int) : Int := if latB c || decide (c = 46) || sylB c then 1 else if uppB c then 3 else 0

def catT (T : Tb) (c : Int) : Int := (val T.cat c).getD (fixC c)
def clsT (T : Tb) (c : Int) : Int := (val T.cls c).getD 0
def joiT (T : Tb) (c : Int) : Int := (val T.joi c).getD 0
def bidT (T : Tb) (c : Int) : Int := (val T.bid c).getD (fixB c)
def scrT (T : Tb) (c : Int) : Int := (val T.scr c).getD (fixS c)
def staT (T : Tb) (c : Int) : Int := (val T.sta c).getD (fixT c)
def ignT (T : Tb) (c : Int) : Bool := (val T.ign c).isSome
def excT (T : Tb) (c : Int) : Bool := T.exc.contains c
def mapsT (T : Tb) (c : Int) : List Int := if uppB c then [c + 32] else findM T.map c

/-- Scalar values. -/
def scaB (c : Int) : Bool := decide (0 ≤ c) && decide (c ≤ 1114111) && !(decide (55296 ≤ c) && decide (c ≤ 57343))

/-- The lists of spans, the lists of mappings. -/
def spansT (T : Tb) : List (List Sp) := [T.cat, T.cls, T.joi, T.bid, T.scr, T.sta, T.ign]
def mpsT (T : Tb) : List (List Mp) := [T.ext, T.map, T.dec, T.pro]

/-- Rule 1. -/
def fewS (l : List Sp) : Bool := decide (l.length ≤ 256)
def fewM (l : List Mp) : Bool := decide (l.length ≤ 256)
def r1 (T : Tb) : Bool := (spansT T).all fewS && ((mpsT T).all fewM && decide (T.exc.length ≤ 256))

/-- Rule 2: a list of spans; keys. -/
def spOk (l : List Sp) : Bool := ascB 0 l && l.all fun s => !resF s.1 s.2.1
def keyOk (l : List Int) : Bool := ascI 0 1114111 l && l.all fun c => !resB c
def keyOkP (l : List Int) : Bool := ascI 0 1114111 l && l.all fun c => !resP c
def froms (l : List Mp) : List Int := l.map (·.1)
def r2 (T : Tb) : Bool := (spansT T).all spOk && (keyOk (froms T.ext) && (keyOk (froms T.map) && (keyOk (froms T.dec) && (keyOkP (froms T.pro) && keyOk T.exc))))

/-- Rule 3. -/
def valOk (lo hi : Int) (l : List Sp) : Bool := l.all fun s => decide (lo ≤ s.2.2) && decide (s.2.2 ≤ hi)
def r3 (T : Tb) : Bool := valOk 0 8 T.cat && (valOk 1 254 T.cls && (valOk 0 5 T.joi && (valOk 0 11 T.bid && (valOk 0 60 T.scr && (valOk 0 4 T.sta && valOk 1 1 T.ign)))))

/-- Rule 4. -/
def seqE (m : Mp) : Bool := decide (1 ≤ m.2.length) && decide (m.2.length ≤ 18) && ascI 3 60 m.2
def seqS (m : Mp) : Bool := decide (1 ≤ m.2.length) && decide (m.2.length ≤ 18) && m.2.all scaB
def r4 (T : Tb) : Bool := T.ext.all seqE && (T.map.all seqS && (T.dec.all seqS && T.pro.all seqS))

/-- Rule 5. -/
def cntV (v : Int) : List Sp → Int
  | [] => 0
  | s :: r => (if s.2.2 = v then s.2.1 - s.1 + 1 else 0) + cntV v r
def okSta (T : Tb) (c : Int) : Bool := decide (staT T c = 1) || decide (staT T c = 4)
def mapOk (T : Tb) (m : Mp) : Bool := decide (staT T m.1 = 3) && m.2.all (okSta T)
def r5 (T : Tb) : Bool := T.map.all (mapOk T) && decide (cntV 3 T.sta = T.map.length)

/-- Rule 6. -/
def forb (c : Int) : Bool := decide (c = 46) || (sylB c || jamB c)
def short2 (m : Mp) : Bool := decide (m.2.length ≤ 2) && m.2.all fun c => !forb c

/-- The size of a full decomposition, as far as k steps tell, 19 for all that is more than 18. -/
def sz (l : List Mp) : Nat → Int → Nat
  | 0, c => if findM l c = [] then 1 else 19
  | k + 1, c => if findM l c = [] then 1 else min 19 ((findM l c).map (sz l k)).sum

end Go.Proofs.YtmkaclfjekjabaaDoor
