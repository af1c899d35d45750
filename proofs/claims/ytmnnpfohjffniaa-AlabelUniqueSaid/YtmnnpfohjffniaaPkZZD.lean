/-
  puny: sizeOfNumber, readNumber, cutAtHyphen.
  puny: cutAtHyphen, Decode.
-/
import Derived.Test.YtmnnpfohjffniaaQPunA
import Derived.Test.YtmnnpfohjffniaaQPunDecS
import Derived.Test.YtmnnpfohjffniaaQPunIns
import Derived.Test.YtmnnpfohjffniaaPkZZC
set_option linter.unusedSimpArgs false
set_option linter.unusedVariables false
namespace Go.Proofs.Ytmnnpfohjffniaa
open Go.RowKit
set_option linter.unusedVariables false

def siz0 (o : Option Nat) : Nat := match o with | none => 0 | some m => m

set_option maxHeartbeats 1000000 in
theorem sizenum_at (s : ByteArray) (b : Nat) (R : Option Nat) (w : World) (hs : s.size ≤ 1099511627776) (hb : b ≤ 70368744177664) (hR : Hid (sizD b 0 (nums s) = R)) :
    Calls Try.prog 58 #[.string s, .int .i64 b] w fun e w' => e = .returned (.tuple #[.int .i64 (siz0 R : Nat), .bool R.isSome]) ∧ w' = w := by
  go_enter Try.func58, Try.ntmps58
  go_wp2
  go_loopw [11] (fun u wr => ∃ k : Nat, u = .int .i64 k ∧ k ≤ s.size ∧ Hid (sizD b k ((nums s).drop k) = R) ∧ wr = w) (fun u _ => s.size - (intOf u).toNat)
  case atStart => exact ⟨0, rfl, Nat.zero_le _, hR, rfl⟩
  case round =>
    obtain ⟨k, rfl, hk, hz, rfl⟩ := hrel
    by_cases hlt : k < s.size
    · have hz2 := hz.out
      rw [pnums_drop s k hlt, sizD] at hz2
      obtain ⟨c, hc⟩ : ∃ c : Int, (s[k].toNat : Int) = c := ⟨_, rfl⟩
      have hc0 : 0 ≤ c := by omega
      have hc1 : c ≤ 255 := by have := s[k].toNat_lt; omega
      rw [hc] at hz2
      cases hd : digV c with
      | none =>
        rw [hd] at hz2
        simp only at hz2
        subst hz2
        have HD := Lib.hid hd
        clear hd hz hR
        go_wp2_with (go_at_call 59; refine (digv_at c none _ hc0 hc1 HD).mono ?_; rintro e w1 ⟨rfl, rfl⟩)
        go_ret2
        exact ⟨rfl, rfl⟩
      | some d =>
        rw [hd] at hz2
        simp only at hz2
        have HD := Lib.hid hd
        have hd36 := digV_lt hd
        obtain ⟨T, hT⟩ : ∃ T, thr b k = T := ⟨_, rfl⟩
        rw [hT] at hz2
        have HT := Lib.hid hT
        clear hd hz hT
        by_cases hdt : d < T
        · rw [if_pos hdt] at hz2
          subst hz2
          clear hR
          go_wp2_with (first
            | (go_at_call 59; refine (digv_at c (some d) _ hc0 hc1 HD).mono ?_; rintro e w1 ⟨rfl, rfl⟩; simp only [dvN, Option.isSome_some])
            | (go_at_call 47; refine (thr_at k b T _ (by omega) hb HT).mono ?_; rintro e w2 ⟨rfl, rfl⟩))
          go_ret2
          exact ⟨rfl, rfl⟩
        · rw [if_neg hdt] at hz2
          have HZ2 := Lib.hid hz2
          clear hz2
          go_wp2_with (first
            | (go_at_call 59; refine (digv_at c (some d) _ hc0 hc1 HD).mono ?_; rintro e w1 ⟨rfl, rfl⟩; simp only [dvN, Option.isSome_some])
            | (go_at_call 47; refine (thr_at k b T _ (by omega) hb HT).mono ?_; rintro e w2 ⟨rfl, rfl⟩))
          go_roundw
          case rel => exact ⟨k + 1, by go_num, by omega, HZ2, by first | rfl | trivial⟩
          case measure => simp [intOf]; omega
    · have HZ : Hid (R = none) := by
        unfold Hid; rw [← hz.out, List.drop_of_length_le (by rw [nums_length]; omega)]; rfl
      obtain rfl := HZ.out
      clear HZ hz hR
      go_wp2
      go_ret2
      exact ⟨rfl, rfl⟩

set_option maxHeartbeats 2000000 in
theorem readnum_at (s : ByteArray) (b v m : Nat) (er : Int) (w : World) (hs : s.size ≤ 1099511627776) (hb : b ≤ 70368744177664) (hR : Hid (rdN b (nums s) = (v, m, er))) :
    Calls Try.prog 53 #[.string s, .int .i64 b] w fun e w' => e = .returned (.tuple #[.int .i64 v, .int .i64 m, .int .i64 er]) ∧ w' = w := by
  have hR2 := hR.out
  unfold rdN at hR2
  cases ht : takeD b 0 (nums s) with
  | none =>
    rw [ht] at hR2
    simp only at hR2
    injection hR2 with e1 e2
    injection e2 with e2 e3
    subst e1; subst e2; subst e3
    have HS : Hid (sizD b 0 (nums s) = none) := by unfold Hid; rw [sizD_take, ht]
    clear ht hR
    go_enter Try.func53, Try.ntmps53
    go_wp2_with (go_at_call 58; refine (sizenum_at s b none _ hs hb HS).mono ?_; rintro e w1 ⟨rfl, rfl⟩)
    go_ret3
    exact ⟨rfl, rfl⟩
  | some X =>
    obtain ⟨D, r⟩ := X
    rw [ht] at hR2
    simp only at hR2
    obtain ⟨p1, p2, p3, p4⟩ := takeD_parts b (nums s) 0 D r ht
    rw [nums_length] at p2
    have HS : Hid (sizD b 0 (nums s) = some D.length) := by unfold Hid; rw [sizD_take, ht]; simp
    have HP4 := Lib.hid p4
    have HR2 := Lib.hid hR2
    clear ht hR p4 hR2
    go_enter Try.func53, Try.ntmps53
    go_wp2_with (go_at_call 58; refine (sizenum_at s b (some D.length) _ hs hb HS).mono ?_; rintro e w1 ⟨rfl, rfl⟩; simp only [siz0, Option.isSome_some])
    go_loopw [4, 5, 8, 21] (fun su sz we u wr => ∃ (k S W Sk Wk : Nat), sz = .int .i64 D.length ∧ u = .int .i64 k ∧ su = .int .i64 Sk ∧ we = .int .i64 Wk ∧ k ≤ D.length ∧ Sk ≤ 2147483647 ∧ 1 ≤ Wk ∧ Wk ≤ 2147483648 ∧ Hid (NumSt b D k S W) ∧ Hid (KeptP S W Sk Wk) ∧ wr = w1) (fun _ _ _ u _ => D.length - (intOf u).toNat)
    case atStart => exact ⟨0, 0, 1, 0, 1, rfl, rfl, rfl, rfl, Nat.zero_le _, by omega, by omega, by omega, NumSt.start b D, ⟨rfl, by omega, by omega⟩, by first | rfl | trivial⟩
    case round =>
      obtain ⟨k, S, W, Sk, Wk, rfl, rfl, rfl, rfl, hk, hSk, hW1, hW2, hns, hkp, rfl⟩ := hrel
      by_cases hlt : k < D.length
      · have hks : k < s.size := by omega
        have hdv := HP4.out k hlt
        rw [pnums_getD s k hks] at hdv
        obtain ⟨c, hc⟩ : ∃ c : Int, (s[k].toNat : Int) = c := ⟨_, rfl⟩
        have hc0 : 0 ≤ c := by omega
        have hc1 : c ≤ 255 := by have := s[k].toNat_lt; omega
        obtain ⟨d, hd⟩ : ∃ d, D.getD k 0 = d := ⟨_, rfl⟩
        rw [hc, hd] at hdv
        have hd36 := digV_lt hdv
        have HDV := Lib.hid hdv
        have HLE := Lib.hid (hns.out.le hlt)
        have HST := Lib.hid (hns.out.step hlt)
        rw [hd] at HLE HST
        obtain ⟨T, hT⟩ : ∃ T, thr b k = T := ⟨_, rfl⟩
        obtain ⟨ht1, ht2⟩ := thr_bd b k
        rw [hT] at HST ht1 ht2
        have HT := Lib.hid hT
        obtain ⟨f, hf⟩ : ∃ f, 36 - T = f := ⟨_, rfl⟩
        rw [hf] at HST
        have hf1 : 1 ≤ f := by omega
        have hf36 : f ≤ 36 := by omega
        have HPOS := Lib.hid hns.out.pos
        have hfI : (36 : Int) - (T : Int) = (f : Int) := by omega
        obtain ⟨R, hRR⟩ : ∃ R, 2147483647 - Sk = R := ⟨_, rfl⟩
        obtain ⟨q, hq⟩ : ∃ q, R / Wk = q := ⟨_, rfl⟩
        have hRI : (2147483647 : Int) - (Sk : Int) = (R : Int) := by omega
        have hqI : (R : Int).tdiv (Wk : Int) = (q : Int) := by rw [← hq]; rfl
        have hqR : q ≤ R := by rw [← hq]; exact Nat.div_le_self _ _
        have HOV : Hid (q < d → 2147483647 < S + d * W) := fun h => hkp.out.over HPOS.out (by rw [hRR, hq]; exact h)
        have HNX : Hid (¬ q < d → KeptP (S + d * W) (W * f) (Sk + d * Wk) (nextW Wk f) ∧ Sk + d * Wk ≤ 2147483647) := fun h => hkp.out.next HPOS.out hf1 hf36 (by rw [hRR, hq]; exact h)
        clear hd hT hf hRR hq hdv hns hkp
        by_cases hov : q < d
        · have hbig : 2147483647 < pvalS b 0 D := Nat.lt_of_lt_of_le (HOV.out hov) HLE.out
          have hE := HR2.out
          rw [if_pos hbig] at hE
          injection hE with e1 e2
          injection e2 with e2 e3
          subst e1; subst e2; subst e3
          clear hbig HNX HOV HR2
          go_wp2_with (go_at_call 59; refine (digv_at c (some d) _ hc0 hc1 HDV).mono ?_; rintro e w2 ⟨rfl, rfl⟩; simp only [dvN, Option.isSome_some])
          go_ret3
          exact ⟨rfl, rfl⟩
        · obtain ⟨hkn, hsm⟩ := HNX.out hov
          obtain ⟨p, hp⟩ : ∃ p, d * Wk = p := ⟨_, rfl⟩
          have hpI : (d : Int) * (Wk : Int) = (p : Int) := by rw [← hp, Int.natCast_mul]
          rw [hp] at hkn hsm
          obtain ⟨V, hV⟩ : ∃ V, nextW Wk f = V := ⟨_, rfl⟩
          rw [hV] at hkn
          have HV := Lib.hid hV
          have HKN := Lib.hid hkn
          have hV1 : 1 ≤ V := by
            have h1 := hkn.w
            have h2 := HST.out.pos
            omega
          have hV2 : V ≤ 2147483648 := by have h1 := hkn.w; omega
          have hnov : ¬ ((q : Int) < (d : Int)) := by omega
          clear hp hV hkn HNX HOV HLE
          go_wp2_with (first
            | (go_at_call 59; refine (digv_at c (some d) _ hc0 hc1 HDV).mono ?_; rintro e w2 ⟨rfl, rfl⟩; simp only [dvN, Option.isSome_some])
            | (go_at_call 47; refine (thr_at k b T _ (by omega) hb HT).mono ?_; rintro e w3 ⟨rfl, rfl⟩)
            | (go_at_call 60; refine (nextw_at Wk f V _ hf1 hf36 hW2 HV).mono ?_; rintro e w4 ⟨rfl, rfl⟩))
          go_roundw
          case rel => exact ⟨k + 1, _, _, Sk + p, V, rfl, by go_num, by go_num, rfl, by omega, hsm, hV1, hV2, HST, HKN, by first | rfl | trivial⟩
          case measure => simp [intOf]; omega
      · obtain rfl : k = D.length := by omega
        have HV : Hid (S = pvalS b 0 D) := hns.out.done
        have hE := HR2.out
        have hsum := hkp.out.sum
        rw [if_neg (by rw [← HV.out, ← hsum]; omega), ← HV.out, ← hsum] at hE
        injection hE with e1 e2
        injection e2 with e2 e3
        subst e1; subst e2; subst e3
        clear hsum HV hns hkp HR2
        go_wp2
        go_ret3
        exact ⟨rfl, rfl⟩

end Go.Proofs.Ytmnnpfohjffniaa

namespace Go.Proofs.Ytmnnpfohjffniaa
open Go.RowKit Go.Sort
set_option linter.unusedVariables false

/-- The last hyphen among the first k bytes, or -1. -/
def laI (s : List Int) : Nat → Int
  | 0 => -1
  | k + 1 => if s.getD k 0 = 45 then (k : Int) else laI s k
theorem hyK_laI (s : List Int) : ∀ k, (laI s k ≤ 0 → hyK s k = 0) ∧ (0 < laI s k → (hyK s k : Int) = laI s k) ∧ -1 ≤ laI s k ∧ laI s k < k + 1
  | 0 => ⟨fun _ => rfl, fun h => by simp [laI] at h, by simp [laI], by simp [laI]⟩
  | k + 1 => by
    obtain ⟨h1, h2, h3, h4⟩ := hyK_laI s k
    rw [laI, hyK]
    by_cases e : s.getD k 0 = 45
    · rw [if_pos e]
      by_cases hk : 1 ≤ k
      · rw [if_pos ⟨hk, e⟩]; exact ⟨fun h => by omega, fun _ => rfl, by omega, by omega⟩
      · have : k = 0 := by omega
        subst this
        rw [if_neg (by omega)]; exact ⟨fun _ => rfl, fun h => by omega, by omega, by omega⟩
    · rw [if_neg e, if_neg (fun h => e h.2)]
      exact ⟨h1, h2, h3, by omega⟩

set_option maxHeartbeats 1000000 in
theorem lastidx_at (s : ByteArray) (R : Int) (w : World) (hs : s.size ≤ 1099511627776) (hR : Hid (laI (nums s) s.size = R)) :
    Calls Try.prog 65 #[.string s, .int .u8 45] w fun e w' => e = .returned (.int .i64 R) ∧ w' = w := by
  go_enter Try.func65, Try.ntmps65
  go_wp2
  go_loopw [5] (fun u wr => ∃ k : Nat, u = .int .i64 ((k : Int) - 1) ∧ k ≤ s.size ∧ Hid (laI (nums s) k = R) ∧ wr = w) (fun u _ => (intOf u + 1).toNat)
  case atStart => exact ⟨s.size, rfl, Nat.le_refl _, hR, rfl⟩
  case round =>
    obtain ⟨k, rfl, hk, hz, rfl⟩ := hrel
    by_cases h0 : 0 < k
    · obtain ⟨j, rfl⟩ : ∃ j, k = j + 1 := ⟨k - 1, by omega⟩
      have hjs : j < s.size := by omega
      have hz2 := hz.out
      rw [laI, pnums_getD s j hjs] at hz2
      obtain ⟨c, hc⟩ : ∃ c : Int, (s[j].toNat : Int) = c := ⟨_, rfl⟩
      rw [hc] at hz2
      have hj1 : ((j + 1 : Nat) : Int) - 1 = (j : Int) := by omega
      rw [hj1]
      clear hz hj1
      by_cases e : c = 45
      · have d1 : (c == 45) = true := by simp [e]
        rw [if_pos e] at hz2
        have HZ := Lib.hid hz2
        clear hz2 e
        go_wp2
        go_ret
        exact ⟨by rw [← HZ.out]; rfl, rfl⟩
      · have d1 : (c == 45) = false := by simp [e]
        rw [if_neg e] at hz2
        have HZ := Lib.hid hz2
        clear hz2 e
        go_wp2
        go_roundw
        case rel => exact ⟨j, rfl, by omega, HZ, by first | rfl | trivial⟩
        case measure => simp [intOf]
    · obtain rfl : k = 0 := by omega
      have HZ : Hid (R = -1) := hz.out.symm
      obtain rfl := HZ.out
      clear HZ hz hR
      go_wp2
      go_ret
      exact ⟨rfl, rfl⟩

set_option maxHeartbeats 1000000 in
theorem slastidx_at (s : ByteArray) (R : Int) (w : World) (hs : s.size ≤ 1099511627776) (hR : Hid (laI (nums s) s.size = R)) :
    Calls Try.prog 57 #[.string s, .int .u8 45] w fun e w' => e = .returned (.int .i64 R) ∧ w' = w := by
  go_enter Try.func57, Try.ntmps57
  go_wp2_with (go_at_call 65; refine (lastidx_at s R _ hs hR).mono ?_; rintro e w1 ⟨rfl, rfl⟩)
  go_ret
  exact ⟨rfl, rfl⟩

theorem nums_ext0 (X : ByteArray) (k : Nat) : nums (X.extract 0 k) = (nums X).take k := by
  unfold nums
  rw [ByteArray.data_extract, Array.toList_extract, List.extract_eq_take_drop, List.drop_zero, Nat.sub_zero, List.map_take]
theorem nums_extE (X : ByteArray) (k : Nat) : nums (X.extract k X.size) = (nums X).drop k := by
  have hs : X.size = X.data.toList.length := (Array.length_toList (xs := X.data)).symm
  unfold nums
  rw [ByteArray.data_extract, Array.toList_extract, hs, List.extract_eq_take_drop, List.take_of_length_le (by simp), List.map_drop]

/-- What cutAtHyphen gives. -/
def CutPost (s : ByteArray) (w : World) (e : Ending) (w' : World) : Prop :=
  ∃ B G : ByteArray, e = .returned (.tuple #[.string B, .string G]) ∧ nums B = (nums s).take (hyS (nums s)) ∧ nums G = (nums s).drop (if hyS (nums s) = 0 then 0 else hyS (nums s) + 1) ∧ ∃ q, w' = w.drewN q

set_option maxHeartbeats 1000000 in
theorem cut_at (s : ByteArray) (w : World) (hs : s.size ≤ 1099511627776) :
    Calls Try.prog 52 #[.string s] w (CutPost s w) := by
  obtain ⟨R, hR⟩ : ∃ R, laI (nums s) s.size = R := ⟨_, rfl⟩
  obtain ⟨h1, h2, h3, h4⟩ := hyK_laI (nums s) s.size
  have hh : hyS (nums s) = hyK (nums s) s.size := by unfold hyS; rw [nums_length]
  rw [← hh, hR] at h1 h2
  rw [hR] at h3 h4
  have HR := Lib.hid hR
  clear hR hh
  by_cases h0 : R ≤ 0
  · have HH := Lib.hid (h1 h0)
    clear h1 h2
    go_enter Try.func52, Try.ntmps52
    go_wp2_with (go_at_call 57; refine (slastidx_at s R _ hs HR).mono ?_; rintro e w1 ⟨rfl, rfl⟩)
    go_ret2
    refine ⟨ByteArray.mk #[], s, rfl, ?_, ?_, 0, rfl⟩
    · rw [HH.out, List.take_zero]; rfl
    · rw [HH.out]; rfl
  · obtain ⟨k, rfl⟩ : ∃ k : Nat, R = k := ⟨R.toNat, by omega⟩
    have hk1 : hyS (nums s) = k := by have := h2 (by omega); omega
    have HH := Lib.hid hk1
    have hk0 : 0 < k := by omega
    have hks : k < s.size := by
      rcases hyK_bd (nums s) (nums s).length with e | e
      · have e2 : hyS (nums s) = 0 := e
        omega
      · have e2 : hyS (nums s) < (nums s).length := e.2.1
        rw [nums_length] at e2; omega
    obtain ⟨k1, hk2⟩ : ∃ k1, k + 1 = k1 := ⟨_, rfl⟩
    have i1 : (k : Int) + 1 = (k1 : Int) := by omega
    have w1 : IntKind.i64.wrap (k1 : Int) = (k1 : Int) := IntWalk.i64_in _ (by omega)
    have hk1s : k1 ≤ s.size := by omega
    have HK2 := Lib.hid hk2
    clear h1 h2 h3 h4 hk1 h0 hk2
    go_enter Try.func52, Try.ntmps52
    go_wp2_with (go_at_call 57; refine (slastidx_at s k _ hs HR).mono ?_; rintro e w2 ⟨rfl, rfl⟩)
    go_quiet (fail)
    go_wp2
    go_ret2
    refine ⟨_, _, rfl, ?_, ?_, _, rfl⟩
    · rw [HH.out]; exact nums_ext0 s k
    · rw [HH.out, if_neg (by omega), HK2.out]; exact nums_extE s k1

/-- One int more, where there is room. -/
theorem SRow.push {W : World} {g cap : Nat} {L : List Int} (h : SRow W g cap L.toArray) (hroom : L.length + 1 ≤ cap) (x : Int) : SRow (W.setCells g L.length [.int .i64 x]) g cap (L ++ [x]).toArray ∧ (∀ j, j < [Value.int .i64 x].length → (W.cell? ⟨g, 0 + L.length + j, none⟩).isSome = true) ∧ (∀ j, j < [Value.int .i64 x].length → W.frozen? ⟨g, 0 + L.length + j, none⟩ = false) := by
  obtain ⟨cur, h1, h2, h3, h4⟩ := h
  have hsp : ∀ j, j < [Value.int .i64 x].length → (W.cell? ⟨g, 0 + L.length + j, none⟩).isSome = true := by
    intro j hj
    simp at hj
    subst hj
    simp [World.cell?, h1]; omega
  refine ⟨?_, hsp, fun j hj => by simp [World.frozen?, h1]⟩
  obtain ⟨c2, k1, k2⟩ := row_setCells g 3 (0, 0) [.int .i64 x] L.length W cur h1
  refine SRow.of k1 (by rw [k2]; exact h2) (by simpa using hroom) (fun i hi => ?_)
  have hi2 : i < L.length + 1 := by simpa using hi
  rw [getBang_list _ (by simpa using hi2), List.getD_eq_getElem?_getD]
  by_cases e : i < L.length
  · rw [List.getElem?_append_left e, World.cell?_setCells_out g _ _ _ _ (fun _ _ => .inl (by simpa using e))]
    have := h4 i (by simpa using e)
    rw [getBang_list _ e] at this
    simp [World.cell?, h1, this, List.getD]
  · obtain rfl : i = L.length := by omega
    rw [List.getElem?_append_right (Nat.le_refl _)]
    have := World.cell?_setCells_in g [.int .i64 x] L.length W (fun j hj => by have := hsp j hj; rwa [Nat.zero_add] at this) 0 (by simp)
    simpa using this

/-- One number read: what comes of it. -/
theorem pdecL_step {f b i v m : Nat} {P L : List Int} {n e : Int} {first : Bool} (hne : L ≠ []) (hr : rdN b L = (v, m, e)) :
    (e ≠ 0 → pdecL (f + 1) P n i b first L = ([], e)) ∧
    (e = 0 → 1 ≤ m ∧ m ≤ L.length ∧ v ≤ 2147483647 ∧ pdecL (f + 1) P n i b first L =
      if 1114111 < n + (((v + i) / (P.length + 1) : Nat) : Int) then ([], 8) else if scpB (n + (((v + i) / (P.length + 1) : Nat) : Int)) = false then ([], 12)
      else pdecL f (putD P (n + (((v + i) / (P.length + 1) : Nat) : Int)) ((v + i) % (P.length + 1))) (n + (((v + i) / (P.length + 1) : Nat) : Int)) ((v + i) % (P.length + 1) + 1) (adaptN v (P.length + 1) first) false (L.drop m)) := by
  cases L with
  | nil => exact absurd rfl hne
  | cons c s =>
    rw [pdecL]
    unfold rdN at hr
    cases ht : takeD b 0 (c :: s) with
    | none =>
      rw [ht] at hr
      simp only at hr
      injection hr with e1 e2
      injection e2 with e2 e3
      subst e3
      exact ⟨fun _ => rfl, fun h => by simp at h⟩
    | some X =>
      obtain ⟨D, r⟩ := X
      rw [ht] at hr
      simp only at hr
      obtain ⟨p1, p2, p3, p4⟩ := takeD_parts b (c :: s) 0 D r ht
      split at hr
      · rename_i hb
        injection hr with e1 e2
        injection e2 with e2 e3
        subst e3
        exact ⟨fun _ => by simp only; rw [if_pos (.inl hb)], fun h => by simp at h⟩
      · rename_i hb
        injection hr with e1 e2
        injection e2 with e2 e3
        subst e1; subst e2; subst e3
        refine ⟨fun h => absurd rfl h, fun _ => ⟨p1, p2, by omega, ?_⟩⟩
        simp only
        unfold stepD
        simp only
        by_cases hc : 1114111 < n + (((pvalS b 0 D + i) / (P.length + 1) : Nat) : Int)
        · rw [if_pos (.inr hc), if_pos hc]
        · rw [if_neg (by rintro (h | h); exact hb h; exact hc h), if_neg hc, ← p3]

end Go.Proofs.Ytmnnpfohjffniaa
