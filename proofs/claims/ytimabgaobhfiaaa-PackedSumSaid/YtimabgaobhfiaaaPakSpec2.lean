/-
  Compact numbers, plain mathematics: lists, spans, the sum.
-/
import Derived.Test.YtimabgaobhfiaaaPakSpec
import Derived.Test.YtimabgaobhfiaaaRanSpec2
import Derived.Laws.BitsAllLaws
namespace Go.Proofs.Ytimabgaobhfiaaa

theorem str_assoc (a b c : ByteArray) : a ++ b ++ c = a ++ (b ++ c) := by
  apply ByteArray.ext; simp [Array.append_assoc]
theorem str_empty (a : ByteArray) : a ++ ByteArray.empty = a := by
  apply ByteArray.ext; simp

def modB (v : Int) : Bool := decide (-1073741824 ≤ v) && decide (v ≤ 1073741824)
theorem modB_iff {v : Int} : modB v = true ↔ -1073741824 ≤ v ∧ v ≤ 1073741824 := by simp [modB]

/-- The codes of the elements behind one that was 'last'. -/
def encL (last : Int) : List Int → ByteArray
  | [] => ByteArray.empty
  | v :: r => putB (v - last) ++ encL v r

/-- PutList behind the number of elements. -/
def putLF (b : ByteArray) (last : Int) : List Int → ByteArray × Int
  | [] => (b, 0)
  | v :: r => if modB v = true then putLF (b ++ putB (v - last)) v r else (ByteArray.empty, 3)

def putListS (b : ByteArray) (l : List Int) : ByteArray × Int := if 4096 < l.length then (ByteArray.empty, 7) else putLF (b ++ putB l.length) 0 l

theorem putLF_ok (l : List Int) (b : ByteArray) (last : Int) (h : ∀ v ∈ l, modB v = true) : putLF b last l = (b ++ encL last l, 0) := by
  induction l generalizing b last with
  | nil => simp [putLF, encL, str_empty]
  | cons v r ih =>
    rw [putLF, if_pos (h v (by simp)), ih _ _ (fun x hx => h x (by simp [hx]))]
    rw [encL, str_assoc]

/-- GetList behind the number of elements: n are left, i is the index. -/
def getLF (s : ByteArray) (at' : Int) : Nat → Int → Int → List Int → List Int × Int × Int
  | 0, i, _, out => (out, i, 0)
  | n + 1, i, last, out =>
    if (getS s i).2.2 ≠ 0 then ([], at', (getS s i).2.2)
    else if (getS s i).1 < -2147483648 ∨ 2147483648 < (getS s i).1 ∨ modB (last + (getS s i).1) = false then ([], at', 4)
    else getLF s at' n (getS s i).2.1 (last + (getS s i).1) (out ++ [last + (getS s i).1])

def getListS (s : ByteArray) (at' : Int) : List Int × Int × Int :=
  if (getS s at').2.2 ≠ 0 then ([], at', (getS s at').2.2)
  else if (getS s at').1 < 0 ∨ 4096 < (getS s at').1 then ([], at', 4)
  else getLF s at' (getS s at').1.toNat (getS s at').2.1 0 []

theorem getLF_back (l : List Int) (b r : ByteArray) (at' last : Int) (out : List Int) (hl : modB last = true) (h : ∀ v ∈ l, modB v = true) :
    getLF (b ++ encL last l ++ r) at' l.length b.size last out = (out ++ l, ((b ++ encL last l).size : Int), 0) := by
  induction l generalizing b last out with
  | nil => simp [getLF, encL, str_empty]
  | cons v l ih =>
    have hv := modB_iff.1 (h v (by simp))
    have hl' := modB_iff.1 hl
    have e : b ++ encL last (v :: l) ++ r = b ++ putB (v - last) ++ (encL v l ++ r) := by simp only [encL, str_assoc]
    have e2 : b ++ putB (v - last) ++ (encL v l ++ r) = (b ++ putB (v - last)) ++ encL v l ++ r := by simp only [str_assoc]
    have hg := get_put b (encL v l ++ r) (v - last) (by omega) (by omega)
    simp only [List.length_cons, getLF]
    rw [e, hg]
    have e3 : last + (v - last) = v := by omega
    simp only [ne_eq, not_true_eq_false, if_false, e3]
    rw [if_neg (by rw [h v (by simp)]; simp; omega)]
    have := ih (b ++ putB (v - last)) v (out ++ [v]) (h v (by simp)) (fun x hx => h x (by simp [hx]))
    rw [e2, show (b.size : Int) + (putB (v - last)).size = ((b ++ putB (v - last)).size : Int) by rw [ByteArray.size_append]; omega, this]
    simp only [List.append_assoc, List.cons_append, List.nil_append, encL, str_assoc]

/-- GetList gives what PutList was given. -/
theorem list_back (b r : ByteArray) (l : List Int) (hn : l.length ≤ 4096) (h : ∀ v ∈ l, modB v = true) :
    putListS b l = (b ++ putB l.length ++ encL 0 l, 0) ∧ getListS (b ++ putB l.length ++ encL 0 l ++ r) b.size = (l, ((b ++ putB l.length ++ encL 0 l).size : Int), 0) := by
  constructor
  · rw [putListS, if_neg (by omega), putLF_ok l _ _ h]
  · have hg := get_put b (encL 0 l ++ r) l.length (by omega) (by omega)
    have e : b ++ putB (l.length : Int) ++ encL 0 l ++ r = b ++ putB (l.length : Int) ++ (encL 0 l ++ r) := by simp only [str_assoc]
    rw [getListS, e, hg]
    simp only [ne_eq, not_true_eq_false, if_false]
    rw [if_neg (by omega), Int.toNat_natCast]
    have := getLF_back l (b ++ putB l.length) r b.size 0 [] (by decide) h
    rw [show (b.size : Int) + (putB (l.length : Int)).size = ((b ++ putB (l.length : Int)).size : Int) by rw [ByteArray.size_append]; omega, ← e]
    rw [this]
    simp

/-- The codes of spans behind one that ended at 'last'. -/
def encS (last : Int) : List Sp → ByteArray
  | [] => ByteArray.empty
  | s :: r => putB (s.1 - last) ++ (putB (s.2.1 - s.1) ++ (putB s.2.2 ++ encS s.2.1 r))

def putSF (b : ByteArray) (last : Int) : List Sp → ByteArray × Int
  | [] => (b, 0)
  | s :: r => if modB s.2.2 = true then putSF (b ++ putB (s.1 - last) ++ putB (s.2.1 - s.1) ++ putB s.2.2) s.2.1 r else (ByteArray.empty, 3)

def putSpansS (b : ByteArray) (l : List Sp) : ByteArray × Int := if validS l = true then putSF (b ++ putB l.length) 0 l else (ByteArray.empty, 1)

theorem putSF_ok (l : List Sp) (b : ByteArray) (last : Int) (h : ∀ s ∈ l, modB s.2.2 = true) : putSF b last l = (b ++ encS last l, 0) := by
  induction l generalizing b last with
  | nil => simp [putSF, encS, str_empty]
  | cons s r ih =>
    rw [putSF, if_pos (h s (by simp)), ih _ _ (fun x hx => h x (by simp [hx]))]
    simp only [encS, str_assoc]

/-- GetSpans behind the number of spans: n are left; 'first': none has been read. -/
def getSF (s : ByteArray) (at' : Int) : Nat → Bool → Int → Int → List Sp → List Sp × Int × Int
  | 0, _, i, _, out => (out, i, 0)
  | n + 1, first, i, last, out =>
    let f := getS s i
    if f.2.2 ≠ 0 then ([], at', f.2.2)
    else if f.1 < 0 ∨ 1114111 - last < f.1 ∨ (first = false ∧ f.1 = 0) then ([], at', 4)
    else
      let t := getS s f.2.1
      if t.2.2 ≠ 0 then ([], at', t.2.2)
      else if t.1 < 0 ∨ 1114111 - (last + f.1) < t.1 then ([], at', 4)
      else
        let v := getS s t.2.1
        if v.2.2 ≠ 0 then ([], at', v.2.2)
        else if modB v.1 = false then ([], at', 4)
        else getSF s at' n false v.2.1 (last + f.1 + t.1) (out ++ [(last + f.1, last + f.1 + t.1, v.1)])

def getSpansS (s : ByteArray) (at' : Int) : List Sp × Int × Int :=
  if (getS s at').2.2 ≠ 0 then ([], at', (getS s at').2.2)
  else if (getS s at').1 < 0 ∨ 256 < (getS s at').1 then ([], at', 4)
  else getSF s at' (getS s at').1.toNat true (getS s at').2.1 0 []

theorem getSF_back (l : List Sp) (b r : ByteArray) (at' last lo : Int) (first : Bool) (out : List Sp) (hl : 0 ≤ last ∧ last ≤ 1114111) (hlo : lo = if first = true then last else last + 1) (ha : ascB lo l = true) (h : ∀ s ∈ l, modB s.2.2 = true) :
    getSF (b ++ encS last l ++ r) at' l.length first b.size last out = (out ++ l, ((b ++ encS last l).size : Int), 0) := by
  induction l generalizing b last lo first out with
  | nil => simp [getSF, encS, str_empty]
  | cons s l ih =>
    obtain ⟨f, t, v⟩ := s
    rw [asc_cons] at ha
    simp only at ha
    have hv := modB_iff.1 (h (f, t, v) (by simp))
    simp only at hv
    have hlast : last ≤ f := by rw [hlo] at ha; split at ha <;> omega
    have hfirst : first = false → last < f := by intro e; rw [hlo, e] at ha; simp at ha; omega
    have e : b ++ encS last ((f, t, v) :: l) ++ r = b ++ putB (f - last) ++ (putB (t - f) ++ (putB v ++ (encS t l ++ r))) := by simp only [encS, str_assoc]
    have e2 : b ++ putB (f - last) ++ (putB (t - f) ++ (putB v ++ (encS t l ++ r))) = (b ++ putB (f - last)) ++ putB (t - f) ++ (putB v ++ (encS t l ++ r)) := by simp only [str_assoc]
    have e3 : b ++ putB (f - last) ++ (putB (t - f) ++ (putB v ++ (encS t l ++ r))) = (b ++ putB (f - last) ++ putB (t - f)) ++ putB v ++ (encS t l ++ r) := by simp only [str_assoc]
    have e4 : b ++ putB (f - last) ++ (putB (t - f) ++ (putB v ++ (encS t l ++ r))) = (b ++ putB (f - last) ++ putB (t - f) ++ putB v) ++ encS t l ++ r := by simp only [str_assoc]
    have g1 := get_put b (putB (t - f) ++ (putB v ++ (encS t l ++ r))) (f - last) (by omega) (by omega)
    have g2 := get_put (b ++ putB (f - last)) (putB v ++ (encS t l ++ r)) (t - f) (by omega) (by omega)
    have g3 := get_put (b ++ putB (f - last) ++ putB (t - f)) (encS t l ++ r) v (by omega) (by omega)
    rw [← e2] at g2
    rw [← e3] at g3
    have s1 : (b.size : Int) + (putB (f - last)).size = ((b ++ putB (f - last)).size : Int) := by rw [ByteArray.size_append]; omega
    have s2 : ((b ++ putB (f - last)).size : Int) + (putB (t - f)).size = ((b ++ putB (f - last) ++ putB (t - f)).size : Int) := by rw [ByteArray.size_append (a := b ++ putB (f - last))]; omega
    have s3 : ((b ++ putB (f - last) ++ putB (t - f)).size : Int) + (putB v).size = ((b ++ putB (f - last) ++ putB (t - f) ++ putB v).size : Int) := by rw [ByteArray.size_append (a := b ++ putB (f - last) ++ putB (t - f))]; omega
    simp only [List.length_cons, getSF]
    rw [e, g1]
    simp only [ne_eq, not_true_eq_false, if_false]
    rw [if_neg (by
      rintro (h1 | h1 | ⟨h1, h2⟩)
      · omega
      · omega
      · have := hfirst h1; omega)]
    rw [s1, g2]
    simp only [ne_eq, not_true_eq_false, if_false]
    rw [if_neg (by omega), s2, g3]
    simp only [ne_eq, not_true_eq_false, if_false]
    rw [if_neg (by rw [modB_iff.2 hv]; simp), s3, e4]
    have := ih (b ++ putB (f - last) ++ putB (t - f) ++ putB v) t (t + 1) false (out ++ [(f, t, v)]) (by omega) (by simp) ha.2.2.2 (fun x hx => h x (by simp [hx]))
    rw [show last + (f - last) = f by omega, show f + (t - f) = t by omega, this]
    simp only [List.append_assoc, List.cons_append, List.nil_append, encS, str_assoc]

/-- GetSpans gives what PutSpans was given. -/
theorem spans_back (b r : ByteArray) (l : List Sp) (hv : validS l = true) (h : ∀ s ∈ l, modB s.2.2 = true) :
    putSpansS b l = (b ++ putB l.length ++ encS 0 l, 0) ∧ getSpansS (b ++ putB l.length ++ encS 0 l ++ r) b.size = (l, ((b ++ putB l.length ++ encS 0 l).size : Int), 0) := by
  have hv0 := hv
  simp only [validS, Bool.and_eq_true, decide_eq_true_eq] at hv
  constructor
  · rw [putSpansS, if_pos hv0, putSF_ok l _ _ h]
  · have hg := get_put b (encS 0 l ++ r) l.length (by omega) (by omega)
    have e : b ++ putB (l.length : Int) ++ encS 0 l ++ r = b ++ putB (l.length : Int) ++ (encS 0 l ++ r) := by simp only [str_assoc]
    rw [getSpansS, e, hg]
    simp only [ne_eq, not_true_eq_false, if_false]
    rw [if_neg (by omega), Int.toNat_natCast]
    have := getSF_back l (b ++ putB l.length) r b.size 0 0 true [] (by omega) rfl hv.2 h
    rw [show (b.size : Int) + (putB (l.length : Int)).size = ((b ++ putB (l.length : Int)).size : Int) by rw [ByteArray.size_append]; omega, ← e]
    rw [this]
    simp

/-- PutInt writes what GetInt accepts. -/
theorem get_unique (t : ByteArray) (v at' : Int) (h : getS t 0 = (v, at', 0)) : 0 < at' ∧ at' ≤ t.size ∧ nums (putB v) = (nums t).take at'.toNat := by
  rw [getS, if_neg (by omega)] at h
  simp only [Int.toNat_zero, List.drop_zero] at h
  by_cases he : (getR 0 0 (nums t)).1 = 0
  · rw [if_pos he] at h
    obtain ⟨⟨er, U, n⟩, hg⟩ : ∃ x, getR 0 0 (nums t) = x := ⟨_, rfl⟩
    rw [hg] at h he
    simp only at h he
    subst he
    simp only [Prod.mk.injEq, and_true] at h
    obtain ⟨h1, h2⟩ := h
    obtain ⟨u, i1, i2, i3, i4, i5, i6, i7, _⟩ := cod_get (nums t) 0 n 0 U (nums_bytes t) (by omega) hg
    simp only [p7, Nat.sub_zero, Int.mul_one, Int.zero_add] at i2 i3 i7
    subst i3
    have hb := unzz_bd U i1 (by have h9 : (2 * p7 9 : Int) = 18446744073709551616 := by decide
                                rw [← h9]; exact i2)
    rw [nums_length] at i6
    refine ⟨by omega, by omega, ?_⟩
    rw [← h1, putB_nums _ hb.1 hb.2, zz_unzz U i1, ← h2]
    simp only [Int.zero_add, Int.toNat_natCast]
    exact i7
  · rw [if_neg he] at h
    simp only [Prod.mk.injEq] at h
    exact absurd h.2.2 he

theorem get_err (t : ByteArray) (at' : Int) (h : (getS t at').2.2 ≠ 0) (h0 : 0 ≤ at') (h1 : at' ≤ t.size) : getS t at' = (0, at', 5) ∨ getS t at' = (0, at', 4) := by
  rw [getS, if_neg (by omega)] at h ⊢
  by_cases he : (getR 0 0 ((nums t).drop at'.toNat)).1 = 0
  · rw [if_pos he] at h; exact absurd rfl h
  · rw [if_neg he]
    rcases getR_err ((nums t).drop at'.toNat) 0 0 with h2 | h2 | h2
    · exact absurd h2 he
    · right; rw [h2]
    · left; rw [h2]

/-- A code that is cut off. -/
theorem get_cut (s t : ByteArray) (v : Int) (c : Nat) (h0 : -9223372036854775808 ≤ v) (h1 : v ≤ 9223372036854775807) (hs : nums t = (nums (putB v)).take c) (hc : c < (putB v).size) : getS t 0 = (0, 0, 5) := by
  have hz := zz_lt v h0 h1
  have hg := get_short 9 0 c 0 (zz v) rfl hz.1 hz.2 (by have := nums_length (putB v); rw [putB_nums v h0 h1] at this; rw [show (codF 9 (zz v)).length = _ from this]; exact hc)
  rw [getS, if_neg (by omega)]
  simp only [Int.toNat_zero, List.drop_zero]
  rw [hs, putB_nums v h0 h1, show getR 0 0 ((cod (zz v)).take c) = _ from hg]
  rfl

end Go.Proofs.Ytimabgaobhfiaaa
