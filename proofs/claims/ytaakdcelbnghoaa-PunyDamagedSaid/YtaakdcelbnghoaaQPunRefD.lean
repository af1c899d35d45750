/-
  The reference's puny: Decode.
-/
import Derived.Test.YtaakdcelbnghoaaQPunRefC
import Derived.Test.YtaakdcelbnghoaaQPunDecC
import Derived.Test.YtaakdcelbnghoaaQAppend
set_option linter.unusedSimpArgs false
set_option linter.unusedVariables false
namespace Go.Proofs.Ytaakdcelbnghoaa
open Go.RowKit
set_option linter.unusedVariables false

/-- One number read by the reference: what comes of it. -/
theorem rdecL_step {f b i a v m : Nat} {ok : Bool} {P L : List Int} {n : Int} {first : Bool} (hne : L ≠ []) (hr : rrdN b a L = (v, m, ok)) :
    (ok = false → pdecL (f + 1) P n i b first L = ([], 12)) ∧
    (ok = true → a + 1 ≤ m ∧ m ≤ a + L.length ∧ v ≤ 2147483648 ∧ (2147483647 < v → pdecL (f + 1) P n i b first L = ([], 8)) ∧
      (¬ 2147483647 < v → pdecL (f + 1) P n i b first L =
        if 1114111 < n + (((v + i) / (P.length + 1) : Nat) : Int) then ([], 8) else if scpB (n + (((v + i) / (P.length + 1) : Nat) : Int)) = false then ([], 12)
        else pdecL f (putD P (n + (((v + i) / (P.length + 1) : Nat) : Int)) ((v + i) % (P.length + 1))) (n + (((v + i) / (P.length + 1) : Nat) : Int)) ((v + i) % (P.length + 1) + 1) (adaptN v (P.length + 1) first) false (L.drop (m - a)))) := by
  unfold rrdN at hr
  cases ht : takeD b 0 L with
  | none =>
    rw [ht] at hr
    injection hr with e1 e2
    injection e2 with e2 e3
    subst e3
    refine ⟨fun _ => ?_, fun h => (by cases h)⟩
    have := (pdecL_step (f := f) (P := P) (n := n) (i := i) (first := first) hne (show rdN b L = (0, 0, 12) by unfold rdN; rw [ht])).1 (by omega)
    exact this
  | some X =>
    obtain ⟨D, r⟩ := X
    rw [ht] at hr
    injection hr with e1 e2
    injection e2 with e2 e3
    subst e2; subst e3
    obtain ⟨p1, p2, p3, p4⟩ := takeD_parts b L 0 D r ht
    refine ⟨fun h => (by cases h), fun _ => ⟨by omega, by omega, by omega, fun hv => ?_, fun hv => ?_⟩⟩
    · have := (pdecL_step (f := f) (P := P) (n := n) (i := i) (first := first) hne (show rdN b L = (0, 0, 8) by unfold rdN; rw [ht]; simp only; rw [if_pos (by omega)])).1 (by omega)
      exact this
    · have hpv : pvalS b 0 D = v := by omega
      have := (pdecL_step (f := f) (P := P) (n := n) (i := i) (first := first) hne (show rdN b L = (v, D.length, 0) by unfold rdN; rw [ht]; simp only; rw [if_neg (by omega), hpv])).2 rfl
      rw [this.2.2.2, Nat.add_sub_cancel_left]

theorem hyK_one (s : List Int) : hyK s 1 = 0 := by
  rw [hyK, if_neg (by omega)]; rfl

theorem drop_in {w : World} {g cap : Nat} {P : List Int} {P3 : Option Addr} (h : IntsIn w (some ⟨g, 0, none⟩) P) (hc : P.length ≤ cap) (J : Nat) (h3 : (if cap = J then some (⟨g, 0, none⟩ : Addr) else some ⟨g, J, none⟩) = P3) : IntsIn w P3 (P.drop J) := by
  rw [← h3]
  split
  · rw [List.drop_of_length_le (by omega)]; exact fun k hk => by simp at hk
  · intro k hk
    have hk2 : J + k < P.length := by rw [List.length_drop] at hk; omega
    obtain ⟨b, off, e, hc2⟩ := h (J + k) hk2
    cases e
    refine ⟨g, J, rfl, ?_⟩
    rw [Nat.zero_add] at hc2
    rw [hc2]
    simp [List.getD, List.getElem?_drop]
theorem take_in {w : World} {p : Option Addr} {P : List Int} (h : IntsIn w p P) (J : Nat) : IntsIn w p (P.take J) := by
  intro k hk
  have hk2 : k < P.length := by rw [List.length_take] at hk; omega
  have hkJ : k < J := by rw [List.length_take] at hk; omega
  obtain ⟨b, off, e, hc⟩ := h k hk2
  refine ⟨b, off, e, ?_⟩
  rw [hc]
  simp [List.getD, List.getElem?_take, hkJ]

theorem Ints.cap2 {w : World} {B : Nat} {v : Value} {zs : List Int} (h : Ints w B v zs) : ∃ p cap, v = .slice p zs.length cap ∧ IntsIn w p zs ∧ zs.length ≤ cap ∧ (p = none ∨ ∃ g, p = some ⟨g, 0, none⟩) := by
  obtain ⟨p, cap, e, hin⟩ := h.inn
  obtain ⟨h1, h2⟩ := h
  rcases h2 with ⟨rfl, h3⟩ | ⟨g, cap2, cur, rfl, hB, hg, hn, hc, hs, ht⟩
  · injection e with e1 e2 e3
    subst e1
    exact ⟨none, cap, by rw [← e2, ← e3], hin, by omega, .inl rfl⟩
  · cases e
    exact ⟨_, _, rfl, hin, by simpa using hn, .inr ⟨g, rfl⟩⟩

theorem pints_one (w : World) (c : Int) : IntsIn (w.alloc (.cells #[.int .i64 c] 3)) (some ⟨w.heap.size, 0, none⟩) [c] := by
  intro k hk
  have : k = 0 := by simp at hk; exact hk
  subst this
  exact ⟨_, _, rfl, by simp [World.cell?_alloc_new]⟩
theorem ownsRow_alloc1 {w : World} {B : Nat} {v : Value} {xs : List Int} (h : Ints w B v xs) (o : Obj) : Ints (w.alloc o) B v xs := World.ownsRow.alloc h o

set_option maxRecDepth 100000 in
set_option maxHeartbeats 8000000 in
theorem rdecode_at (s : ByteArray) (out : List Int) (er : Int) (w : World) (hs : s.size ≤ 140737488355328) (hE : Hid (decP (nums s) = (out, er))) :
    Calls Try.prog 34 #[.string s] w (RetDec out er w) := by
  by_cases hbig : 2048 < s.size
  · have hE' := hE.out
    rw [decP_long (by rw [nums_length]; exact hbig)] at hE'
    injection hE' with e1 e2
    subst e1; subst e2
    clear hE
    go_enter Try.func34, Try.ntmps34
    go_wp2
    go_ret2
    exact RetDec.nil 7 (Below.refl _ _)
  have hsb : s.size ≤ 2048 := by omega
  obtain ⟨i0, hi0, hz0, hz1, hz2⟩ := info_parts Try.info3
  clear hbig
  go_enter Try.func34, Try.ntmps34
  go_wp2
  go_loopw [4, 5] (fun ub uk wr => ∃ (k h : Nat), uk = .int .i64 k ∧ ub = .int .i64 h ∧ 1 ≤ k ∧ k ≤ s.size + 1 ∧ (k ≤ s.size ∨ k = 1) ∧ h ≤ k ∧ Hid (hyK (nums s) k = h) ∧ w = wr) (fun _ uk _ => s.size + 1 - (intOf uk).toNat)
  case atStart => exact ⟨1, 0, rfl, rfl, Nat.le_refl _, by omega, by omega, by omega, hyK_one _, rfl⟩
  case round =>
    obtain ⟨k, h, rfl, rfl, hk1, hk2, hk3, hhk, hz, rfl⟩ := hrel
    by_cases hlt : k < s.size
    · have hst : hyK (nums s) (k + 1) = if 1 ≤ k ∧ (nums s).getD k 0 = 45 then k else hyK (nums s) k := rfl
      rw [pnums_getD s k hlt, hz.out] at hst
      obtain ⟨c, hc⟩ : ∃ c : Int, (s[k].toNat : Int) = c := ⟨_, rfl⟩
      rw [hc] at hst
      by_cases e : c = 45
      · have d1 : (c == 45) = true := by simp [e]
        have HS : Hid (hyK (nums s) (k + 1) = k) := by unfold Hid; rw [hst, if_pos ⟨hk1, e⟩]
        clear hst e hz
        go_wp2
        go_roundw
        case rel => exact ⟨k + 1, k, by go_num, rfl, by omega, by omega, by omega, by omega, HS, by first | rfl | trivial⟩
        case measure => simp [intOf]; omega
      · have d1 : (c == 45) = false := by simp [e]
        have HS : Hid (hyK (nums s) (k + 1) = h) := by unfold Hid; rw [hst, if_neg (fun x => e x.2)]
        clear hst e hz
        go_wp2
        go_roundw
        case rel => exact ⟨k + 1, h, by go_num, rfl, by omega, by omega, by omega, by omega, HS, by first | rfl | trivial⟩
        case measure => simp [intOf]; omega
    · have HH : Hid (hyS (nums s) = h) := by
        have hz' := hz.out
        unfold Hid hyS
        rw [nums_length]
        by_cases h1 : k = s.size
        · rw [← h1]; exact hz'
        · have hk : k = 1 := by omega
          have hs0 : s.size = 0 := by omega
          rw [hk, hyK_one] at hz'
          rw [hs0, ← hz']; rfl
      have hhs : h ≤ s.size := by
        rcases hyK_bd (nums s) (nums s).length with e | e
        · have e2 : hyS (nums s) = 0 := e
          have := HH.out; omega
        · have e2 : hyS (nums s) < (nums s).length := e.2.1
          have := HH.out
          rw [nums_length] at e2; omega
      clear hz hk3 hhk hk2
      have hge : ¬ ((k : Int) < (s.size : Int)) := by omega
      go_wp2
      go_loopw [6, 7] (fun vv u wx => ∃ j : Nat, u = .int .i64 j ∧ j ≤ h ∧ Hid (∀ q, q < j → basB (((nums s).take h).getD q 0) = true) ∧ Hid (Ints wx w.heap.size vv (((nums s).take h).take j)) ∧ Hid (Below w.heap.size w wx)) (fun _ u _ => h - (intOf u).toNat)
      case atStart => exact ⟨0, rfl, Nat.zero_le _, fun q hq => by omega, Ints.nil _ _, Below.refl _ _⟩
      case round =>
        obtain ⟨P, hP⟩ : ∃ P, (nums s).take h = P := ⟨_, rfl⟩
        rw [hP] at hrel
        obtain ⟨j, rfl, hj, hbs, ho, hbe⟩ := hrel
        have hPl : P.length = h := by rw [← hP, List.length_take, nums_length]; omega
        have HPL := Lib.hid hPl
        have HP := Lib.hid hP
        clear hP hPl
        by_cases hlt2 : j < h
        · have hjs : j < s.size := by omega
          have hgd : P.getD j 0 = (s[j].toNat : Int) := by
            rw [← HP.out, ← pnums_getD s j hjs]; simp [List.getD, List.getElem?_take, hlt2]
          obtain ⟨c, hc⟩ : ∃ c : Int, (s[j].toNat : Int) = c := ⟨_, rfl⟩
          rw [hc] at hgd
          have hc0 : 0 ≤ c := by omega
          have hc1 : c ≤ 255 := by have := s[j].toNat_lt; omega
          by_cases hcb : 127 < c
          · have hE' := hE.out
            rw [decP_any (by rw [nums_length]; exact hsb) (by rw [HH.out, HP.out]; exact any_bad (by rw [HPL.out]; exact hlt2) (by rw [hgd]; exact decide_eq_false (by omega)))] at hE'
            injection hE' with e1 e2
            subst e1; subst e2
            clear hE hgd
            go_wp2
            go_ret2
            exact RetDec.nil 12 hbe.out
          · have hnb : decide (127 < c) = false := decide_eq_false hcb
            have HBS2 : Hid (∀ q, q < j + 1 → basB (P.getD q 0) = true) := fun q hq => by
              by_cases e : q = j
              · subst e; rw [hgd]; exact decide_eq_true (by omega)
              · exact hbs.out q (by omega)
            have hown3 := ho.out
            unfold Ints at hown3
            have HOW := Lib.hid hown3
            have htl : (P.take j).length = j := by rw [List.length_take, HPL.out]; omega
            have HTL := Lib.hid htl
            have HSN : Hid (P.take (j + 1) = P.take j ++ [c]) := by unfold Hid; rw [take_snoc_int P j (by rw [HPL.out]; exact hlt2), hgd]
            have HWZ := Lib.hid hbe.out.size
            clear hgd hown3 htl hbs ho
            go_wp2_with (at_builtin; refine wpList_append_own _ rfl _ _ 22 rfl w.heap.size 3 i0 (.int .i64 0) 1 8 Try.underlying22 hi0 hz0 hz1 hz2 rfl (by decide) _ _ _ rfl (HOW.out.alloc _) ⟨_, 0, none⟩ 1 1 [.int .i64 c] rfl rfl (cell_one_new _ _ _) ?c2 ?c3 ?c4 ?c5 ?_)
            case c2 => first | rfl | (intro u hu; simp at hu; subst hu; rfl)
            case c3 => have := HTL.out; unfold maxLen; omega
            case c4 => have := HTL.out; omega
            case c5 => have := HWZ.out; simp; omega
            intro v' w4 hown4 hg4 _
            have HO4 : Hid (Ints w4 w.heap.size v' (P.take (j + 1))) := by
              unfold Hid; rw [HSN.out]; unfold Ints; simpa using hown4
            have HB4 : Hid (Below w.heap.size w w4) := (hbe.out.alloc hbe.out.size _).grown hg4 (by have := HWZ.out; simp; omega) (fun q hq => (HOW.out.lt q hq).1)
            clear hown4 hg4
            go_wp2
            go_roundw
            case rel => exact ⟨j + 1, by go_num, by omega, by rw [HP.out]; exact HBS2, by rw [HP.out]; exact HO4, HB4⟩
            case measure => simp [intOf]; omega
        · obtain rfl : j = h := by omega
          have HO : Hid (Ints wr w.heap.size u6 P) := by
            have := ho.out
            rwa [List.take_of_length_le (by rw [HPL.out]; exact Nat.le_refl _)] at this
          have HA0 : Hid ((P.any fun c => decide (127 < c)) = false) := any_ok (fun q hq => hbs.out q (by rw [HPL.out] at hq; exact hq))
          obtain ⟨a0, ha0⟩ : ∃ a0, (if j = 0 then 0 else j + 1) = a0 := ⟨_, rfl⟩
          have HD0 : Hid (pdecL (nums s).length P 128 0 72 true ((nums s).drop a0) = (out, er)) := by
            have := hE.out
            rw [decP_go (by rw [nums_length]; exact hsb) (by rw [HH.out, HP.out]; exact HA0.out), HH.out, HP.out, ha0] at this
            exact this
          have HA00 := Lib.hid ha0
          have ha0s : a0 ≤ s.size := by
            rw [← ha0]
            rcases hyK_bd (nums s) (nums s).length with e | e
            · have e2 : hyS (nums s) = 0 := e
              rw [if_pos (by rw [← HH.out]; exact e2)]; omega
            · have e2 : hyS (nums s) < (nums s).length := e.2.1
              have := HH.out
              rw [nums_length] at e2
              split <;> omega
          clear ho hbs HA0 hE ha0
          go_upto_if 50 with (fail)
          go_cut [8] (fun c wx => c = .int .i64 a0 ∧ wx = wr)
          case first =>
            by_cases hj0 : j = 0
            · have e1 : a0 = j := by rw [← HA00.out, if_pos hj0, hj0]
              have d1 : decide (0 < j) = false := decide_eq_false (by omega)
              have d2 : decide ((0 : Int) < (j : Int)) = false := decide_eq_false (by omega)
              have E1 := Lib.hid e1
              clear e1
              go_wp2
              go_meet
              exact ⟨by rw [E1.out], rfl⟩
            · have e1 : a0 = j + 1 := by rw [← HA00.out, if_neg hj0]
              have d1 : 0 < j := by omega
              have E1 := Lib.hid e1
              clear e1
              go_wp2
              go_meet
              exact ⟨by rw [E1.out]; go_num, rfl⟩
          case rest =>
            obtain ⟨rfl, rfl⟩ := hcut
            have HLE : Hid (P.length ≤ s.size) := by unfold Hid; rw [HPL.out]; omega
            have hPa : P.length + (s.size - a0) ≤ s.size := by
              have h1 := HA00.out
              have h2 := HPL.out
              by_cases e : j = 0
              · rw [if_pos e] at h1; omega
              · rw [if_neg e] at h1; omega
            obtain ⟨f0, hf0⟩ : ∃ f0, (nums s).length = f0 := ⟨_, rfl⟩
            rw [hf0] at HD0
            have hf0s : f0 = s.size := by rw [← hf0, nums_length]
            have HF0 := Lib.hid hf0s
            have hfa : s.size - a0 ≤ f0 := by omega
            clear hf0 hf0s
            go_wp2
            go_loopw [6, 8, 9, 10, 11, 12] (fun vv ua vn vi vb vf wx => ∃ (a i b f : Nat) (n : Int) (P : List Int) (first : Bool), ua = .int .i64 a ∧ vn = .int .i64 n ∧ vi = .int .i64 i ∧ vb = .int .i64 b ∧ vf = .bool first ∧ a ≤ s.size ∧ s.size - a ≤ f ∧ P.length + (s.size - a) ≤ s.size ∧ 0 ≤ n ∧ n ≤ 1114111 ∧ i ≤ P.length ∧ b ≤ 70368744177664 ∧ Hid (Ints wx w.heap.size vv P) ∧ Hid (Below w.heap.size w wx) ∧ Hid (pdecL f P n i b first ((nums s).drop a) = (out, er))) (fun _ ua _ _ _ _ _ => s.size - (intOf ua).toNat)
            case atStart => exact ⟨a0, 0, 72, f0, 128, P, true, rfl, rfl, rfl, rfl, rfl, ha0s, hfa, hPa, by omega, by omega, by omega, by omega, HO, hbe, HD0⟩
            case round =>
              clear HO hbe HD0 HA00 HPL HP HLE hPa
              obtain ⟨a, i, b, f, n, P, first, rfl, rfl, rfl, rfl, rfl, has, haf, haP, hn0, hn1, hi, hb, ho, hbe, hde⟩ := hrel
              obtain ⟨pn, hpn⟩ : ∃ pn, P.length = pn := ⟨_, rfl⟩
              rw [hpn] at haP hi
              have HPN := Lib.hid hpn
              clear hpn
              by_cases hlt4 : a < s.size
              · obtain ⟨f', rfl⟩ : ∃ f', f = f' + 1 := ⟨f - 1, by omega⟩
                obtain ⟨⟨v, m, ok⟩, hrd⟩ : ∃ y, rrdN b a ((nums s).drop a) = y := ⟨_, rfl⟩
                have hne : (nums s).drop a ≠ [] := by
                  rw [pnums_drop s a hlt4]; simp
                obtain ⟨st1, st2⟩ := rdecL_step (f := f') (P := P) (n := n) (i := i) (first := first) hne hrd
                have HRD := Lib.hid hrd
                obtain ⟨pv, cv, rfl, hinv, hcv, hshape⟩ := ho.out.cap2
                rw [HPN.out] at hcv ⊢
                have HINV := Lib.hid hinv
                clear hne hrd hinv
                cases ok with
                | false =>
                  have hE := st1 rfl
                  rw [hde.out] at hE
                  injection hE with e1 e2
                  subst e1; subst e2
                  clear st1 st2 hde
                  go_wp2_with (go_at_call 46; refine (rread_at s a b v m false _ (by omega) has hb HRD).mono ?_; rintro ex w8 ⟨rfl, rfl⟩)
                  go_ret2
                  exact RetDec.nil 12 hbe.out
                | true =>
                  obtain ⟨m1, m2, hv31, hbig, hst⟩ := st2 rfl
                  rw [List.length_drop, nums_length] at m2
                  rw [HPN.out] at hst
                  obtain ⟨p1, hp1⟩ : ∃ p1, pn + 1 = p1 := ⟨_, rfl⟩
                  have hp1I : (pn : Int) + 1 = (p1 : Int) := by omega
                  rw [hp1] at hst
                  by_cases hvb : 2147483647 < v
                  · have hE := hbig hvb
                    rw [hde.out] at hE
                    injection hE with e1 e2
                    subst e1; subst e2
                    clear st1 st2 hde hbig hst hp1
                    go_wp2_with (go_at_call 46; refine (rread_at s a b v m true _ (by omega) has hb HRD).mono ?_; rintro ex w8 ⟨rfl, rfl⟩)
                    go_ret2
                    exact RetDec.nil 8 hbe.out
                  · have hE := hst hvb
                    rw [hde.out] at hE
                    obtain ⟨Q, hQ⟩ : ∃ Q, v + i = Q := ⟨_, rfl⟩
                    rw [hQ] at hE
                    obtain ⟨C, hC⟩ : ∃ C, Q / p1 = C := ⟨_, rfl⟩
                    obtain ⟨J, hJ⟩ : ∃ J, Q % p1 = J := ⟨_, rfl⟩
                    obtain ⟨A, hA⟩ : ∃ A, adaptN v p1 first = A := ⟨_, rfl⟩
                    have hAb : A ≤ 2199023255588 := by rw [← hA]; exact adaptN_bd v _ _ (by omega)
                    have hJp : J < p1 := by rw [← hJ]; exact Nat.mod_lt _ (by omega)
                    have hCQ : C ≤ Q := by rw [← hC]; exact Nat.div_le_self _ _
                    rw [hC, hJ, hA] at hE
                    obtain ⟨c, hc⟩ : ∃ c : Int, n + (C : Int) = c := ⟨_, rfl⟩
                    rw [hc] at hE
                    have hc0 : 0 ≤ c := by omega
                    have iQ : (v : Int) + (i : Int) = (Q : Int) := by omega
                    have iC : (Q : Int).tdiv (p1 : Int) = (C : Int) := by rw [← hC]; rfl
                    have iJ : (Q : Int).tmod (p1 : Int) = (J : Int) := by rw [← hJ]; rfl
                    have wQ : IntKind.i64.wrap (Q : Int) = (Q : Int) := IntWalk.i64_in _ (by omega)
                    have wC : IntKind.i64.wrap (C : Int) = (C : Int) := IntWalk.i64_in _ (by omega)
                    have wc : IntKind.i64.wrap (c : Int) = (c : Int) := IntWalk.i64_in _ (by omega)
                    have HE := Lib.hid hE
                    have HA := Lib.hid hA
                    have hp1b : 1 ≤ p1 := by omega
                    have hp1c : p1 ≤ 4096 := by omega
                    have dvb : decide (2147483647 < (v : Int)) = false := decide_eq_false (by omega)
                    clear st1 st2 hde hbig hst hp1 hE hA hC hJ hQ
                    by_cases hcm : 1114111 < c
                    · have hE := HE.out
                      rw [if_pos hcm] at hE
                      injection hE with e1 e2
                      subst e1; subst e2
                      clear HE
                      go_wp2_with (go_at_call 46; refine (rread_at s a b v m true _ (by omega) has hb HRD).mono ?_; rintro ex w8 ⟨rfl, rfl⟩)
                      go_ret2
                      exact RetDec.nil 8 hbe.out
                    · have dcm : decide (1114111 < c) = false := decide_eq_false hcm
                      cases hsc : scpB c with
                      | false =>
                        have hE := HE.out
                        rw [if_neg hcm, if_pos hsc] at hE
                        injection hE with e1 e2
                        subst e1; subst e2
                        have HSC := Lib.hid hsc
                        clear HE hsc
                        go_wp2_with (go_at_call 46; refine (rread_at s a b v m true _ (by omega) has hb HRD).mono ?_; rintro ex w8 ⟨rfl, rfl⟩)
                        go_quiet (fail)
                        go_wp2_with (go_at_call 29; refine (pscalar_at c false _ HSC).mono ?_; rintro ex w9 ⟨rfl, rfl⟩)
                        go_ret2
                        exact RetDec.nil 12 (below_drewN hbe.out _)
                      | true =>
                        have HSC := Lib.hid hsc
                        have HDE2 : Hid (pdecL f' (putD P c J) c (J + 1) A false ((nums s).drop m) = (out, er)) := by
                          have := HE.out
                          rw [if_neg hcm, if_neg (by rw [hsc]; simp), List.drop_drop, show a + (m - a) = m by omega] at this
                          exact this.symm
                        clear HE hsc
                        go_wp2_with (go_at_call 46; refine (rread_at s a b v m true _ (by omega) has hb HRD).mono ?_; rintro ex w8 ⟨rfl, rfl⟩)
                        go_quiet (fail)
                        have HBE9 := Lib.hid (below_drewN hbe.out nq)
                        have HIN9 := Lib.hid (in_drewN HINV.out nq)
                        clear hbe ho HINV
                        generalize World.drewN _ nq = W9 at HBE9 HIN9 ⊢
                        go_upto_region 31 with (first
                          | (go_at_call 29; refine (pscalar_at c true _ HSC).mono ?_; rintro ex wa ⟨rfl, rfl⟩)
                          | (go_at_call 18; refine (radapt_at_in v p1 A first _ (by omega) hp1b hp1c HA).mono ?_; rintro ex wb ⟨rfl, rfl⟩))
                        --TAIL
                        rcases hshape with rfl | ⟨g, rfl⟩
                        · have hTL : (P.take J).length = J := by rw [List.length_take, HPN.out]; omega
                          have hDL : (P.drop J).length = pn - J := by rw [List.length_drop, HPN.out]
                          have HTL := Lib.hid hTL
                          have HDL := Lib.hid hDL
                          have HTI := Lib.hid (take_in HIN9.out J)
                          have hJc : J ≤ cv := by omega
                          have hJpn : J ≤ pn := by omega
                          have HDI : Hid (IntsIn wb none (P.drop J)) := by
                            have : P = [] := by
                              cases P with
                              | nil => rfl
                              | cons y r => obtain ⟨_, _, e, _⟩ := HIN9.out 0 (by simp); cases e
                            rw [this]; exact fun k hk => by simp at hk
                          clear hTL hDL
                          go_upto_region 32 with (at_builtin; refine wpList_append_ints _ _ rfl rfl wb.heap.size _ [] rfl (Ints.nil _ _) none J _ (P.take J) HTL.out rfl HTI.out (by rw [HTL.out]; first | omega | (simp; omega)) (Nat.le_refl _) ?_; intro v1 w1 ho1 hg1)
                          rw [List.nil_append] at ho1
                          have HO1 := Lib.hid ho1
                          have HG1 : Hid (wb.grownBy w1 none) := hg1
                          have HDI1 : Hid (IntsIn w1 none (P.drop J)) := HDI.out.grownNone hg1
                          have HZ1 := Lib.hid hg1.size
                          clear ho1 hg1
                          go_upto_region 33 with (at_builtin; refine wpList_append_ints _ _ rfl rfl wb.heap.size _ (P.take J) rfl (ownsRow_alloc1 HO1.out _) (some ⟨w1.heap.size, 0, none⟩) 1 1 [c] rfl rfl (pints_one w1 c) (by rw [HTL.out]; first | omega | (simp; omega)) (by have := HZ1.out; rw [World.size_alloc]; omega) ?_; intro v2 w2 ho2 hg2)
                          have HOB1 : Hid (∀ q, v1.ownBlock = some q → wb.heap.size ≤ q) := fun q hq => (HO1.out.lt q hq).1
                          have HO2 := Lib.hid ho2
                          have HB2 : Hid (Below w.heap.size w w2) := ((HBE9.out.grown HG1.out HBE9.out.size (by simp)).alloc (Nat.le_trans HBE9.out.size HZ1.out) _).grown hg2 (by have h1 := HBE9.out.size; have h2 := HZ1.out; rw [World.size_alloc]; omega) (fun q hq => Nat.le_trans HBE9.out.size (HOB1.out q hq))
                          have HDI2 : Hid (IntsIn w2 none (P.drop J)) := RowIn.older HDI.out (HDI1.out.alloc _) hg2 HOB1.out
                          have HZ2 : Hid (wb.heap.size ≤ w2.heap.size) := by have h1 := hg2.size; have h2 := HZ1.out; rw [World.size_alloc] at h1; unfold Hid; omega
                          clear ho2 hg2 HO1 HG1 HDI1 HZ1 HOB1
                          go_upto_region 34 with (at_builtin; refine wpList_append_ints _ _ rfl rfl wb.heap.size _ (P.take J ++ [c]) rfl HO2.out none (pn - J) _ (P.drop J) HDL.out rfl HDI2.out (by rw [List.length_append, HTL.out, HDL.out]; first | omega | (simp; omega)) HZ2.out ?_; intro v3 w3 ho3 hg3)
                          have HO3 : Hid (Ints w3 w.heap.size v3 (putD P c J)) := by
                            unfold Hid
                            have e : P.take J ++ [c] ++ P.drop J = putD P c J := by unfold putD; simp
                            rw [← e]
                            exact ownsRow_mono ho3 HBE9.out.size
                          have HB3 : Hid (Below w.heap.size w w3) := HB2.out.grown hg3 HB2.out.size (fun q hq => Nat.le_trans HBE9.out.size (HO2.out.lt q hq).1)
                          have HPL3 : Hid ((putD P c J).length = pn + 1) := by unfold Hid; rw [putD_length (by rw [HPN.out]; omega), HPN.out]
                          clear ho3 hg3 HO2 HB2 HDI2 HZ2 HDI HTI
                          go_wp2
                          go_roundw
                          case rel => exact ⟨m, J + 1, A, f', c, putD P c J, false, rfl, rfl, by go_num, rfl, rfl, by omega, by omega, by rw [HPL3.out]; omega, hc0, by omega, by rw [HPL3.out]; omega, by omega, HO3, HB3, HDE2⟩
                          case measure => simp [intOf]; omega
                        · have hTL : (P.take J).length = J := by rw [List.length_take, HPN.out]; omega
                          have hDL : (P.drop J).length = pn - J := by rw [List.length_drop, HPN.out]
                          have HTL := Lib.hid hTL
                          have HDL := Lib.hid hDL
                          have HTI := Lib.hid (take_in HIN9.out J)
                          have hJc : J ≤ cv := by omega
                          have hJpn : J ≤ pn := by omega
                          obtain ⟨P3, hP3⟩ : ∃ P3, (if cv = J then some (⟨g, 0, none⟩ : Addr) else some ⟨g, J, none⟩) = P3 := ⟨_, rfl⟩
                          have HDI : Hid (IntsIn wb P3 (P.drop J)) := drop_in HIN9.out (by rw [HPN.out]; exact hcv) J hP3
                          clear hTL hDL
                          go_upto_region 32 with (at_builtin; refine wpList_append_ints _ _ rfl rfl wb.heap.size _ [] rfl (Ints.nil _ _) (some ⟨g, 0, none⟩) J _ (P.take J) HTL.out rfl HTI.out (by rw [HTL.out]; first | omega | (simp; omega)) (Nat.le_refl _) ?_; intro v1 w1 ho1 hg1)
                          rw [List.nil_append] at ho1
                          have HO1 := Lib.hid ho1
                          have HG1 : Hid (wb.grownBy w1 none) := hg1
                          have HDI1 : Hid (IntsIn w1 P3 (P.drop J)) := HDI.out.grownNone hg1
                          have HZ1 := Lib.hid hg1.size
                          clear ho1 hg1
                          go_upto_region 33 with (at_builtin; refine wpList_append_ints _ _ rfl rfl wb.heap.size _ (P.take J) rfl (ownsRow_alloc1 HO1.out _) (some ⟨w1.heap.size, 0, none⟩) 1 1 [c] rfl rfl (pints_one w1 c) (by rw [HTL.out]; first | omega | (simp; omega)) (by have := HZ1.out; rw [World.size_alloc]; omega) ?_; intro v2 w2 ho2 hg2)
                          have HOB1 : Hid (∀ q, v1.ownBlock = some q → wb.heap.size ≤ q) := fun q hq => (HO1.out.lt q hq).1
                          have HO2 := Lib.hid ho2
                          have HB2 : Hid (Below w.heap.size w w2) := ((HBE9.out.grown HG1.out HBE9.out.size (by simp)).alloc (Nat.le_trans HBE9.out.size HZ1.out) _).grown hg2 (by have h1 := HBE9.out.size; have h2 := HZ1.out; rw [World.size_alloc]; omega) (fun q hq => Nat.le_trans HBE9.out.size (HOB1.out q hq))
                          have HDI2 : Hid (IntsIn w2 P3 (P.drop J)) := RowIn.older HDI.out (HDI1.out.alloc _) hg2 HOB1.out
                          have HZ2 : Hid (wb.heap.size ≤ w2.heap.size) := by have h1 := hg2.size; have h2 := HZ1.out; rw [World.size_alloc] at h1; unfold Hid; omega
                          clear ho2 hg2 HO1 HG1 HDI1 HZ1 HOB1
                          go_upto_region 34 with (at_builtin; refine wpList_append_ints _ _ rfl rfl wb.heap.size _ (P.take J ++ [c]) rfl HO2.out P3 (pn - J) _ (P.drop J) HDL.out rfl HDI2.out (by rw [List.length_append, HTL.out, HDL.out]; first | omega | (simp; omega)) HZ2.out ?_; intro v3 w3 ho3 hg3)
                          have HO3 : Hid (Ints w3 w.heap.size v3 (putD P c J)) := by
                            unfold Hid
                            have e : P.take J ++ [c] ++ P.drop J = putD P c J := by unfold putD; simp
                            rw [← e]
                            exact ownsRow_mono ho3 HBE9.out.size
                          have HB3 : Hid (Below w.heap.size w w3) := HB2.out.grown hg3 HB2.out.size (fun q hq => Nat.le_trans HBE9.out.size (HO2.out.lt q hq).1)
                          have HPL3 : Hid ((putD P c J).length = pn + 1) := by unfold Hid; rw [putD_length (by rw [HPN.out]; omega), HPN.out]
                          clear ho3 hg3 HO2 HB2 HDI2 HZ2 HDI HTI
                          go_wp2
                          go_roundw
                          case rel => exact ⟨m, J + 1, A, f', c, putD P c J, false, rfl, rfl, by go_num, rfl, rfl, by omega, by omega, by rw [HPL3.out]; omega, hc0, by omega, by rw [HPL3.out]; omega, by omega, HO3, HB3, HDE2⟩
                          case measure => simp [intOf]; omega
              · obtain rfl : a = s.size := by omega
                have hE : Hid (P = out ∧ er = 0) := by
                  have h1 := hde.out
                  have h2 : (nums s).drop s.size = [] := by rw [List.drop_of_length_le (by rw [nums_length]; exact Nat.le_refl _)]
                  rw [h2] at h1
                  cases f <;> (rw [pdecL] at h1; injection h1 with a1 a2; exact ⟨a1, a2.symm⟩)
                obtain ⟨e1, e2⟩ := hE.out
                subst e1; subst e2
                clear hde hE
                have hna : ¬ ((s.size : Int) < (s.size : Int)) := by omega
                go_wp2
                go_ret2
                exact ⟨_, rfl, ho.out, hbe.out⟩

end Go.Proofs.Ytaakdcelbnghoaa
