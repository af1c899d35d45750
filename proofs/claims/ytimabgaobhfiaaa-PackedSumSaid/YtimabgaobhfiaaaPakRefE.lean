/-
  The reference GetSpans.
-/
import Derived.Test.YtimabgaobhfiaaaPakRefB
import Derived.Test.YtimabgaobhfiaaaPakH
namespace Go.Proofs.Ytimabgaobhfiaaa
open Go.RowKit

/-- Behind the From of a span: its To is next. -/
def getS2 (s : ByteArray) (a : Int) (m : Nat) (i f t : Int) (out : List Sp) : List Sp × Int × Int :=
  if (getS s i).2.2 ≠ 0 then ([], a, (getS s i).2.2)
  else if modB (getS s i).1 = false then ([], a, 4)
  else getSF s a m false (getS s i).2.1 t (out ++ [(f, t, (getS s i).1)])

def getS1 (s : ByteArray) (a : Int) (m : Nat) (i f : Int) (out : List Sp) : List Sp × Int × Int :=
  if (getS s i).2.2 ≠ 0 then ([], a, (getS s i).2.2)
  else if (getS s i).1 < 0 ∨ 1114111 - f < (getS s i).1 then ([], a, 4)
  else getS2 s a m (getS s i).2.1 f (f + (getS s i).1) out

theorem getSF_one (s : ByteArray) (a : Int) (m : Nat) (first : Bool) (i last : Int) (out : List Sp) :
    getSF s a (m + 1) first i last out = if (getS s i).2.2 ≠ 0 then ([], a, (getS s i).2.2)
      else if (getS s i).1 < 0 ∨ 1114111 - last < (getS s i).1 ∨ (first = false ∧ (getS s i).1 = 0) then ([], a, 4)
      else getS1 s a m (getS s i).2.1 (last + (getS s i).1) out := rfl

/-- Where the reference stands behind k numbers. -/
def AtK (s : ByteArray) (a : Int) (n : Nat) (R : List Sp × Int × Int) (B : Nat) (k : Nat) (j last : Int) (vv : Value) (wr : World) : Prop :=
  ∃ (q : Nat) (out : List Sp), out.length = q ∧
    ((k = 3 * q ∧ getSF s a (n - q) (decide (k = 0)) j last out = R ∧ Spans wr B vv out) ∨
     (k = 3 * q + 1 ∧ ∃ f, 0 ≤ f ∧ f ≤ 1114111 ∧ getS1 s a (n - (q + 1)) j f out = R ∧ Spans wr B vv (out ++ [(f, 0, 0)])) ∨
     (k = 3 * q + 2 ∧ ∃ f, last ≤ 1114111 ∧ getS2 s a (n - (q + 1)) j f last out = R ∧ Spans wr B vv (out ++ [(f, last, 0)])))

theorem cellsS_set2 (i : List Sp) (p : Sp) (t : Int) : (cellsS (i ++ [p])).set (i.length * 3 + 2) (.int .i64 t) = cellsS (i ++ [(p.1, p.2.1, t)]) := by
  rw [cellsS_append, cellsS_append, List.set_append_right _ _ (by rw [cellsS_length]; omega)]
  congr 1
  rw [cellsS_length, show i.length * 3 + 2 - i.length * 3 = 2 by omega]
  rfl

theorem Spans.setVal {w : World} {B : Nat} {i : List Sp} {p : Sp} {g n cap : Nat} (h : Spans w B (.slice (some ⟨g, 0, none⟩) n cap) (i ++ [p])) (hn : n = i.length + 1) (t : Int) :
    Spans (w.setCell ⟨g, i.length * 3 + 2, none⟩ (.int .i64 t)) B (.slice (some ⟨g, 0, none⟩) n cap) (i ++ [(p.1, p.2.1, t)]) := by
  subst hn
  unfold Spans at h ⊢
  rw [← cellsS_set2]
  simp only [List.length_append, List.length_cons, List.length_nil] at h ⊢
  exact (World.ownsRow.stored h _ _).1

theorem Spans.frozen {w : World} {B : Nat} {g n cap : Nat} {l : List Sp} (h : Spans w B (.slice (some ⟨g, 0, none⟩) n cap) l) (hn : n = l.length) (o : Nat) : w.frozen? ⟨g, o, none⟩ = false := by
  subst hn
  exact World.ownsRow.frozenAt (g := g) (cap := cap) (n := l.length) h o

theorem triple_eq {α β γ : Type} {a a' : α} {b b' : β} {c c' : γ} (h : (a, b, c) = (a', b', c')) : a = a' ∧ b = b' ∧ c = c' := by
  injection h with h1 h2
  injection h2 with h2 h3
  exact ⟨h1, h2, h3⟩

set_option maxRecDepth 100000 in
set_option maxHeartbeats 8000000 in
theorem rgetSpans_any (s : ByteArray) (a : Int) (L : List Sp) (i er : Int) (w : World) (hs : s.size ≤ maxLen) (hE : Hid (getSpansS s a = (L, i, er))) :
    Calls Try.prog 30 #[.string s, .int .i64 a] w (RetS L i er w) := by
  have HS := Lib.hid hs
  clear hs
  obtain ⟨v, j, e1, hn⟩ : ∃ v j e1, getS s a = (v, j, e1) := ⟨_, _, _, rfl⟩
  have hE' := hE.out
  rw [getSpansS, hn] at hE'
  simp only at hE'
  have HN := Lib.hid hn
  clear hn
  by_cases h1 : e1 ≠ 0
  · rw [if_pos h1] at hE'
    obtain ⟨x1, x2, x3⟩ := triple_eq hE'
    subst x1; subst x2; subst x3
    have hd : (e1 != 0) = true := by simp [h1]
    clear h1 hE'
    go_enter Try.func30, Try.ntmps30
    go_wp2_with fail
    refine (rgetInt_any s a v j e1 _ HS.out HN).mono ?_
    rintro e w1 ⟨rfl, rfl⟩
    go_wp2
    go_ret3
    exact RetS.of (Spans.nil _ 0) (Below.refl _ _)
  obtain rfl : e1 = 0 := by omega
  have hd0 : ((0 : Int) != 0) = false := rfl
  rw [if_neg h1] at hE'
  by_cases h2 : v < 0 ∨ 256 < v
  · rw [if_pos h2] at hE'
    obtain ⟨x1, x2, x3⟩ := triple_eq hE'
    subst x1; subst x2; subst x3
    have hcase : decide (v < 0) = true ∨ (decide (v < 0) = false ∧ decide (256 < v) = true) := by
      by_cases h : v < 0
      · exact .inl (decide_eq_true h)
      · exact .inr ⟨decide_eq_false h, decide_eq_true (by omega)⟩
    clear h1 h2 hE'
    rcases hcase with hc | ⟨hc, hc2⟩
    all_goals
      go_enter Try.func30, Try.ntmps30
      go_wp2_with fail
      refine (rgetInt_any s a v j 0 _ HS.out HN).mono ?_
      rintro e w1 ⟨rfl, rfl⟩
      go_wp2
      go_ret3
      exact RetS.of (Spans.nil _ 0) (Below.refl _ _)
  rw [if_neg h2] at hE'
  obtain ⟨n, rfl⟩ : ∃ n : Nat, v = n := ⟨v.toNat, by omega⟩
  have hn2 : n ≤ 256 := by omega
  have HA0 : Hid (AtK s a n (L, i, er) w.heap.size 0 j 0 (.slice none 0 0) w) := ⟨0, [], rfl, .inl ⟨rfl, by rw [Int.toNat_natCast] at hE'; exact hE', Spans.nil _ _⟩⟩
  have hc1 : decide ((n : Int) < 0) = false := by simp
  clear h1 h2 hE'
  go_enter Try.func30, Try.ntmps30
  go_wp2_with fail
  refine (rgetInt_any s a n j 0 _ HS.out HN).mono ?_
  rintro e w1 ⟨rfl, rfl⟩
  go_wp2
  clear hc1
  go_loopw [8, 10, 11, 12] (fun jv vv lv kv wr => ∃ (k : Nat) (last j : Int), k ≤ 3 * n ∧ kv = .int .i64 k ∧ jv = .int .i64 j ∧ lv = .int .i64 last ∧ 0 ≤ last ∧ last ≤ 1114111 ∧ Hid (AtK s a n (L, i, er) w.heap.size k j last vv wr) ∧ Hid (Below w.heap.size w wr)) (fun _ _ _ kv _ => 3 * n - (intOf kv).toNat)
  case atStart => exact ⟨0, 0, j, Nat.zero_le _, rfl, rfl, rfl, by omega, by omega, HA0, Below.refl _ _⟩
  case round =>
    clear HA0
    obtain ⟨k, last, j, hk, rfl, rfl, rfl, hl0, hl1, hAt, hbel⟩ := hrel
    by_cases hlt : k < 3 * n
    · obtain ⟨v, j2, e2, hg⟩ : ∃ v j2 e2, getS s j = (v, j2, e2) := ⟨_, _, _, rfl⟩
      have HG := Lib.hid hg
      clear hg
      obtain ⟨q, out, hql, hst⟩ := hAt.out
      have HQL := Lib.hid hql
      clear hAt hql
      rcases hst with ⟨hkq, hEq, ho⟩ | ⟨hkq, f, hf0, hf1, hEq, ho⟩ | ⟨hkq, f, hl2, hEq, ho⟩
      · -- the From of a span
        obtain ⟨m, hm⟩ : ∃ m, n - q = m + 1 := ⟨n - q - 1, by omega⟩
        rw [hm, getSF_one, HG.out] at hEq
        simp only at hEq
        have hk0 : (k : Int) % 3 = 0 := by omega
        have HO := Lib.hid ho
        have HM := Lib.hid hm
        have HKQ := Lib.hid hkq
        clear ho hm hkq
        by_cases h1 : e2 ≠ 0
        · rw [if_pos h1] at hEq
          obtain ⟨x1, x2, x3⟩ := triple_eq hEq
          subst x1; subst x2; subst x3
          have hd : (e2 != 0) = true := by simp [h1]
          clear h1 hEq hk0
          go_wp2_with fail
          refine (rgetInt_any s j v j2 e2 _ HS.out HG).mono ?_
          rintro e w2 ⟨rfl, rfl⟩
          go_wp2
          go_ret3
          exact RetS.of (Spans.nil _ 0) hbel.out
        · obtain rfl : e2 = 0 := by omega
          rw [if_neg h1] at hEq
          have hk9 : (k : Int).tmod 3 = 0 := by rw [Int.tmod_eq_emod_of_nonneg (by omega)]; exact hk0
          by_cases h2 : v < 0 ∨ 1114111 - last < v ∨ (decide (k = 0) = false ∧ v = 0)
          · rw [if_pos h2] at hEq
            obtain ⟨x1, x2, x3⟩ := triple_eq hEq
            subst x1; subst x2; subst x3
            have hcase : decide (v < 0) = true ∨ (decide (v < 0) = false ∧ decide (1114111 - last < v) = true) ∨ (decide (v < 0) = false ∧ decide (1114111 - last < v) = false ∧ decide (0 < k) = true ∧ (v == 0) = true) := by
              by_cases h : v < 0
              · exact .inl (decide_eq_true h)
              · by_cases h' : 1114111 - last < v
                · exact .inr (.inl ⟨decide_eq_false h, decide_eq_true h'⟩)
                · refine .inr (.inr ⟨decide_eq_false h, decide_eq_false h', ?_⟩)
                  rcases h2 with h2 | h2 | ⟨h2, h3⟩
                  · omega
                  · omega
                  · have := of_decide_eq_false h2
                    exact ⟨decide_eq_true (by omega), by simp [h3]⟩
            clear h1 h2 hEq
            rcases hcase with hc | ⟨hc, hc2⟩ | ⟨hc, hc2, hc3, hc4⟩
            all_goals
              go_wp2_with fail
              refine (rgetInt_any s j v j2 0 _ HS.out HG).mono ?_
              rintro e w2 ⟨rfl, rfl⟩
              go_wp2
              go_ret3
              exact RetS.of (Spans.nil _ 0) hbel.out
          · rw [if_neg h2] at hEq
            have hc : decide (v < 0) = false := decide_eq_false (by omega)
            have hc2 : decide (1114111 - last < v) = false := decide_eq_false (by omega)
            have hv0 : 0 ≤ v := by omega
            have hv1 : last + v ≤ 1114111 := by omega
            have hc3 : decide (0 < k) = false ∨ (decide (0 < k) = true ∧ (v == 0) = false) := by
              by_cases h : 0 < k
              · refine .inr ⟨by simp [h], ?_⟩
                rw [beq_eq_false_iff_ne]
                intro hv
                exact h2 (.inr (.inr ⟨by simp; omega, hv⟩))
              · exact .inl (by simp; omega)
            have HQ := Lib.hid hEq
            have hql : out.length ≤ 1099511627775 := by have := HQL.out; have := HKQ.out; omega
            clear h1 h2 hEq
            rcases hc3 with hc3 | ⟨hc3, hc4⟩
            all_goals
              go_wp2_with fail
              refine (rgetInt_any s j v j2 0 _ HS.out HG).mono ?_
              rintro e w2 ⟨rfl, rfl⟩
              go_wp2_with (at_builtin; refine wpList_append_span (.tmp 85) (.tmp 90) rfl rfl w.heap.size _ out rfl HO.out (last + v, 0, 0) 1 _ rfl rfl (by omega) hbel.out.size ?_; intro v5 w5 ho5 hg5)
              have HB5 := Lib.hid (hbel.out.grown hg5 hbel.out.size HO.out.base)
              have HA5 : Hid (AtK s a n (L, i, er) w.heap.size (k + 1) j2 last v5 w5) := by
                have h1 := HKQ.out
                have h2 := HM.out
                exact ⟨q, out, HQL.out, .inr (.inl ⟨by omega, last + v, by omega, hv1, by rw [show n - (q + 1) = m by omega]; exact HQ.out, ho5⟩)⟩
              clear ho5 hg5
              go_wp2
              go_roundw
              case rel => exact ⟨k + 1, last, j2, by omega, by go_num, rfl, rfl, hl0, hl1, HA5, HB5⟩
              case measure => simp [intOf]; omega
      · -- the To of a span
        rw [getS1, HG.out] at hEq
        simp only at hEq
        obtain ⟨g, cap, rfl, hg1, hg2, q1, q2, q3, q4⟩ := ho.last
        simp only at q1 q2 q3
        have hk0 : (k : Int) % 3 = 1 := by omega
        have hk9 : (k : Int).tmod 3 = 1 := by rw [Int.tmod_eq_emod_of_nonneg (by omega)]; exact hk0
        have HO := Lib.hid ho
        have HG1 := Lib.hid hg1
        have HKQ := Lib.hid hkq
        have hlen : out.length ≤ 256 := by have := HQL.out; omega
        clear ho hkq hg1
        by_cases h1 : e2 ≠ 0
        · rw [if_pos h1] at hEq
          obtain ⟨x1, x2, x3⟩ := triple_eq hEq
          subst x1; subst x2; subst x3
          have hd : (e2 != 0) = true := by simp [h1]
          clear h1 hEq hk0
          go_wp2_with fail
          refine (rgetInt_any s j v j2 e2 _ HS.out HG).mono ?_
          rintro e w2 ⟨rfl, rfl⟩
          go_wp2
          go_ret3
          exact RetS.of (Spans.nil _ 0) hbel.out
        · obtain rfl : e2 = 0 := by omega
          rw [if_neg h1] at hEq
          by_cases h2 : v < 0 ∨ 1114111 - f < v
          · rw [if_pos h2] at hEq
            obtain ⟨x1, x2, x3⟩ := triple_eq hEq
            subst x1; subst x2; subst x3
            have hcase : decide (v < 0) = true ∨ (decide (v < 0) = false ∧ decide (1114111 - f < v) = true) := by
              by_cases h : v < 0
              · exact .inl (decide_eq_true h)
              · exact .inr ⟨decide_eq_false h, decide_eq_true (by omega)⟩
            clear h1 h2 hEq
            rcases hcase with hc | ⟨hc, hc2⟩
            all_goals
              go_wp2_with fail
              refine (rgetInt_any s j v j2 0 _ HS.out HG).mono ?_
              rintro e w2 ⟨rfl, rfl⟩
              go_wp2
              go_ret3
              exact RetS.of (Spans.nil _ 0) hbel.out
          · rw [if_neg h2] at hEq
            have hc : decide (v < 0) = false := decide_eq_false (by omega)
            have hc2 : decide (1114111 - f < v) = false := decide_eq_false (by omega)
            have hv0 : 0 ≤ v := by omega
            have hv1 : f + v ≤ 1114111 := by omega
            have HQ := Lib.hid hEq
            clear h1 h2 hEq
            go_wp2_with fail
            refine (rgetInt_any s j v j2 0 _ HS.out HG).mono ?_
            rintro e w2 ⟨rfl, rfl⟩
            go_wp2
            have HB5 := Lib.hid (hbel.out.setCell (p := ⟨g, out.length * 3 + 1, none⟩) HG1.out (.int .i64 (f + v)))
            have HA5 : Hid (AtK s a n (L, i, er) w.heap.size (k + 1) j2 (f + v) (.slice (some ⟨g, 0, none⟩) (out.length + 1) cap) (wr.setCell ⟨g, out.length * 3 + 1, none⟩ (.int .i64 (f + v)))) := by
              have h1 := HKQ.out
              exact ⟨q, out, HQL.out, .inr (.inr ⟨by omega, f, hv1, HQ.out, HO.out.setTo rfl (f + v)⟩)⟩
            go_roundw
            case rel => exact ⟨k + 1, f + v, j2, by omega, by go_num, rfl, rfl, by omega, hv1, HA5, HB5⟩
            case measure => simp [intOf]; omega
      · -- the Value of a span
        rw [getS2, HG.out] at hEq
        simp only at hEq
        obtain ⟨g, cap, rfl, hg1, hg2, q1, q2, q3, q4⟩ := ho.last
        simp only at q1 q2 q3
        have q5 := ho.frozen (by simp) (out.length * 3 + 2)
        have hk0 : (k : Int) % 3 = 2 := by omega
        have hk9 : (k : Int).tmod 3 = 2 := by rw [Int.tmod_eq_emod_of_nonneg (by omega)]; exact hk0
        have HO := Lib.hid ho
        have HG1 := Lib.hid hg1
        have HKQ := Lib.hid hkq
        have hlen : out.length ≤ 256 := by have := HQL.out; omega
        clear ho hkq hg1
        by_cases h1 : e2 ≠ 0
        · rw [if_pos h1] at hEq
          obtain ⟨x1, x2, x3⟩ := triple_eq hEq
          subst x1; subst x2; subst x3
          have hd : (e2 != 0) = true := by simp [h1]
          clear h1 hEq hk0
          go_wp2_with fail
          refine (rgetInt_any s j v j2 e2 _ HS.out HG).mono ?_
          rintro e w2 ⟨rfl, rfl⟩
          go_wp2
          go_ret3
          exact RetS.of (Spans.nil _ 0) hbel.out
        · obtain rfl : e2 = 0 := by omega
          rw [if_neg h1] at hEq
          cases hm : modB v with
          | false =>
            rw [if_pos hm] at hEq
            obtain ⟨x1, x2, x3⟩ := triple_eq hEq
            subst x1; subst x2; subst x3
            have HMF := Lib.hid hm
            clear h1 hm hEq
            go_wp2_with fail
            refine (rgetInt_any s j v j2 0 _ HS.out HG).mono ?_
            rintro e w2 ⟨rfl, rfl⟩
            go_wp2_with fail
            refine (moderate_at v false _ HMF).mono ?_
            rintro e w2 ⟨rfl, rfl⟩
            go_wp2
            go_ret3
            exact RetS.of (Spans.nil _ 0) hbel.out
          | true =>
            rw [if_neg (by rw [hm]; simp)] at hEq
            have HMT := Lib.hid hm
            have HQ := Lib.hid hEq
            clear h1 hm hEq
            go_wp2_with fail
            refine (rgetInt_any s j v j2 0 _ HS.out HG).mono ?_
            rintro e w2 ⟨rfl, rfl⟩
            go_wp2_with fail
            refine (moderate_at v true _ HMT).mono ?_
            rintro e w2 ⟨rfl, rfl⟩
            go_wp2
            have HB5 := Lib.hid (hbel.out.setCell (p := ⟨g, out.length * 3 + 2, none⟩) HG1.out (.int .i64 v))
            have HA5 : Hid (AtK s a n (L, i, er) w.heap.size (k + 1) j2 last (.slice (some ⟨g, 0, none⟩) (out.length + 1) cap) (wr.setCell ⟨g, out.length * 3 + 2, none⟩ (.int .i64 v))) := by
              have h1 := HKQ.out
              refine ⟨q + 1, out ++ [(f, last, v)], by have := HQL.out; simp; omega, .inl ⟨by omega, ?_, HO.out.setVal rfl v⟩⟩
              have h3 : decide (k + 1 = 0) = false := by simp
              rw [h3]; exact HQ.out
            go_roundw
            case rel => exact ⟨k + 1, last, j2, by omega, by go_num, rfl, rfl, hl0, hl1, HA5, HB5⟩
            case measure => simp [intOf]; omega
    · obtain rfl : k = 3 * n := by omega
      obtain ⟨q, out, hql, hst⟩ := hAt.out
      rcases hst with ⟨hkq, hEq, ho⟩ | ⟨hkq, _⟩ | ⟨hkq, _⟩
      · have hq : n - q = 0 := by omega
        rw [hq, getSF] at hEq
        obtain ⟨x1, x2, x3⟩ := triple_eq hEq
        subst x1; subst x2; subst x3
        have HO := Lib.hid ho
        have hlt' : ¬ (((3 * n : Nat) : Int) < 3 * (n : Int)) := by omega
        clear hEq hAt ho hkq hq hql hlt
        go_wp2
        go_ret3
        exact RetS.of HO.out hbel.out
      · exfalso; omega
      · exfalso; omega

end Go.Proofs.Ytimabgaobhfiaaa
