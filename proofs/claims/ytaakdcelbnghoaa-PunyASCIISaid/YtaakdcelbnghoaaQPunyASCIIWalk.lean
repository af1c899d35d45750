/-
  The walk of PunyASCII.
-/
import Derived.Test.YtaakdcelbnghoaaQPunEnv
import Derived.Test.YtaakdcelbnghoaaPkL
import Derived.Test.YtaakdcelbnghoaaPkZZC
import Derived.Test.YtaakdcelbnghoaaPkZZD
set_option linter.unusedSimpArgs false
set_option linter.unusedVariables false
namespace Go.Proofs.Ytaakdcelbnghoaa.punyASCIIW
open Go.RowKit

theorem tail_nil {l : List Int} (hs : l.all scpB = true) : (pencL l (l.length - (basS l).length) (basF l) 128 0 72 true = []) ↔ (basS l).length = l.length := by
  have hp : (basS l).length ≤ l.length := placed_len _ _
  constructor
  · intro h
    apply Nat.le_antisymm hp
    apply Nat.not_lt.1
    intro hlt
    obtain ⟨m, hm⟩ : ∃ m, l.length - (basS l).length = m + 1 := ⟨l.length - (basS l).length - 1, by omega⟩
    rw [hm, pencL] at h
    cases hk : leastK l (basF l) l.length with
    | none =>
      have h2 := leastK_none l (basF l) l.length hk
      have h3 : basS l = l := placed_all l (basF l) (by simp [basF]) h2
      rw [h3] at hlt
      omega
    | some a =>
      rw [hk] at h
      simp only [List.append_eq_nil_iff, List.map_eq_nil_iff] at h
      exact pnumS_ne _ _ _ h.1
  · intro h
    rw [h, Nat.sub_self, pencL]

/-- What the law asks of the bytes behind the basic ones. -/
theorem asc_facts {l : List Int} (hs : l.all scpB = true) (hl : l.length ≤ 11) :
    ∃ T, (encP l).1 = frontS (basS l) ++ T ∧ (∀ c ∈ T, (97 ≤ c ∧ c ≤ 122) ∨ (48 ≤ c ∧ c ≤ 57)) ∧ (T = [] ↔ (basS l).length = l.length) := by
  refine ⟨_, ?_, fun c hc => pencL_dig l _ _ _ _ _ _ c hc, tail_nil hs⟩
  unfold encP
  rw [if_neg (by omega), if_neg (by rw [hs]; simp)]

theorem row_slice {w : World} {B : Nat} {v : Value} {n : Nat} {xs : List Int} (h : w.ownsRow B 5 1 v n (xs.map (.int .u8))) : ∃ p c, v = .slice p n c := by
  obtain ⟨h1, h2⟩ := h
  rcases h2 with ⟨rfl, h3⟩ | ⟨g, cap, cur, rfl, _⟩
  · exact ⟨none, 0, by rw [h3]⟩
  · exact ⟨_, _, rfl⟩

theorem nums_getN (S : ByteArray) (k : Nat) (hk : k < S.size) : (nums S).getD k 0 = (S[k].toNat : Int) := by
  have h := congrArg List.head? (pnums_drop S k hk)
  rw [List.head?_drop] at h
  rw [List.getD_eq_getElem?_getD, h]
  rfl

set_option maxRecDepth 100000 in
set_option maxHeartbeats 4000000 in
theorem walk (a0 : Option Addr) (len0 cap0 : Nat) (z0 : List Int) (w : World) (w0 : IsRow .i64 w a0 len0 cap0 z0) :
    Calls Try.prog 8 #[.slice a0 len0 cap0] w fun e w' => e = .returned (.bool true) ∧ Below w.heap.size w w' := by
  obtain ⟨zs, hlen, hzl, hzs, _⟩ := w0.inn
  simp only [IntKind.bits] at hzl
  have HZ := Lib.hid hzs
  have HL0 : Hid (zs.length = len0) := hlen.symm
  have hb0 : len0 ≤ 17592186043904 := by omega
  obtain ⟨xs, hX⟩ : ∃ xs, ptsF zs = xs := ⟨_, rfl⟩
  have hl11 : xs.length ≤ 11 := by rw [← hX]; exact ptsF_len zs
  have hsc : xs.all scpB = true := by rw [← hX]; exact ptsF_sc zs
  obtain ⟨X, S, HE, HS, hXl, HD⟩ := encP_ok hsc hl11
  obtain ⟨T, hT1, hT2, hT3⟩ := asc_facts hsc hl11
  rw [HE.out] at hT1
  have hT1' : X = frontS (basS xs) ++ T := hT1
  obtain ⟨F, hF⟩ : ∃ F, strOfNums (frontS (basS xs)) = F := ⟨_, rfl⟩
  obtain ⟨f, hf⟩ : ∃ f, F.size = f := ⟨_, rfl⟩
  obtain ⟨m, hm⟩ : ∃ m, S.size = m := ⟨_, rfl⟩
  obtain ⟨n, hn⟩ : ∃ n, xs.length = n := ⟨_, rfl⟩
  obtain ⟨nb, hnb⟩ : ∃ nb, (basS xs).length = nb := ⟨_, rfl⟩
  have hnS : nums S = X := by rw [← HS.out]; exact nums_of X (scp_int HE.out)
  have hSs : S.size ≤ 2048 := by rw [← HS.out, strOfNums_size]; exact hXl
  have hfl : (frontS (basS xs)).length = f := by rw [← hf, ← hF, strOfNums_size]
  have hml : X.length = m := by rw [← hm, ← HS.out, strOfNums_size]
  have hfm : f ≤ m := by rw [← hfl, ← hml, hT1', List.length_append]; omega
  have hmm : m ≤ 2048 := by omega
  have hex : S.extract 0 f = F := by
    rw [← hF, ← HS.out, hT1']
    apply ByteArray.ext
    apply Array.ext'
    rw [← hfl]
    simp [strOfNums, ByteArray.data_extract]
  have HBY : Hid (∀ k, k < m → f ≤ k → (97 ≤ (nums S).getD k 0 ∧ (nums S).getD k 0 ≤ 122) ∨ (48 ≤ (nums S).getD k 0 ∧ (nums S).getD k 0 ≤ 57)) := by
    intro k hk hfk
    rw [hnS, hT1', List.getD_eq_getElem?_getD, List.getElem?_append_right (by omega)]
    have h1 : k - (frontS (basS xs)).length < T.length := by
      have := congrArg List.length hT1'
      rw [List.length_append] at this
      omega
    rw [List.getElem?_eq_getElem h1]
    exact hT2 _ (List.getElem_mem h1)
  have hmf : m = f ↔ nb = n := by
    rw [← hnb, ← hn, ← hT3, ← hml, ← hfl, hT1', List.length_append]
    constructor
    · intro h
      exact List.eq_nil_of_length_eq_zero (by omega)
    · intro h
      rw [h]; rfl
  have hn11 : n ≤ 11 := by omega
  have hnbn : nb ≤ n := by rw [← hnb, ← hn]; exact placed_len _ _
  have HPF : Hid ((nb = 0 → strOfNums (basS xs) = F) ∧ (0 < nb → strOfNums (basS xs) ++ ByteArray.mk #[45] = F)) := by
    constructor
    · intro h
      have h2 : basS xs = [] := List.eq_nil_of_length_eq_zero (by omega)
      rw [← hF, h2]; rfl
    · intro h
      have h2 : basS xs ≠ [] := by intro e; rw [e] at hnb; simp at hnb; omega
      rw [← hF]
      unfold frontS
      rw [if_neg h2, pstrOf_append]
      rfl
  have HX := Lib.hid hX
  have HL := Lib.hid hn
  have HNB := Lib.hid hnb
  have HSC : Hid (∀ c ∈ xs, scpB c = true) := by unfold Hid; simpa using hsc
  have HM := Lib.hid hm
  have HF := Lib.hid hf
  have HEX := Lib.hid hex
  have HMF := Lib.hid hmf
  obtain ⟨i0, hi, hz0, hz1, hz2⟩ := info_parts Try.info5
  clear hX hsc hXl HD hl11 hzs hlen hzl w0 hT1 hT1' hT2 hT3 hnS hSs hfl hml hmf hex hm hf hnb hn hF
  go_enter Try.func8, Try.ntmps8
  go_wp2_with fail
  refine (pts_at a0 len0 cap0 zs xs _ HZ.out HL0 hb0 HX).mono ?_
  rintro e w1 ⟨p1, c1, rfl, hi1, hc1, hb1⟩
  rw [HL.out] at hc1
  rw [HL.out]
  have HI1 := Lib.hid hi1
  have HB1 := Lib.hid hb1
  clear hi1 hb1 HZ
  go_wp2_with fail
  refine (encode_at p1 n c1 xs X 0 S _ HI1.out HL hc1 (by omega) HE HS).mono ?_
  rintro e w2 ⟨rfl, hb2⟩
  have HI2 := Lib.hid (HI1.out.below hb2)
  have HB2 := Lib.hid (HB1.out.trans (hb2.mono HB1.out.size))
  clear hb2 HI1 HB1 HE HS
  have HO0 : Hid (w2.ownsRow w2.heap.size 5 1 (.slice none 0 0) 0 (([] : List Int).map (.int .u8))) := World.ownsRow_nil _ _ _ _
  have HBr : Hid (Below w2.heap.size w2 w2) := Below.refl _ _
  go_wp2
  go_loopw [6, 20] (fun vv u wr => ∃ k : Nat, u = .int .i64 k ∧ k ≤ n ∧ Hid (wr.ownsRow w2.heap.size 5 1 vv (basS (xs.take k)).length ((basS (xs.take k)).map (.int .u8))) ∧ Hid (Below w2.heap.size w2 wr)) (fun _ u _ => n - (intOf u).toNat)
  case atStart => exact ⟨0, rfl, Nat.zero_le _, HO0, HBr⟩
  case round =>
    obtain ⟨k, rfl, hk, ho, hb⟩ := hrel
    by_cases hlt : k < n
    · have hkl : k < xs.length := by rw [HL.out]; exact hlt
      obtain ⟨b, off, rfl, hck⟩ := (HI2.out.below hb.out) k hkl
      obtain ⟨x, hx⟩ : ∃ x, xs.getD k 0 = x := ⟨_, rfl⟩
      have hxs : scpB x = true := by rw [← hx]; exact HSC.out _ (by simp [hkl])
      have hxb := scp_bd hxs
      have HSN := basS_snoc xs k hkl
      rw [hx] at hck HSN
      clear hx hkl hxs
      cases hbs : basB x with
      | true =>
        have hx128 : x < 128 := by unfold basB at hbs; exact of_decide_eq_true hbs
        have HSN2 : Hid (basS (xs.take (k + 1)) = basS (xs.take k) ++ [x]) := by unfold Hid; rw [HSN, if_pos hbs]
        have hw8 : IntKind.u8.wrap x = x := by rw [IntKind.wrap_u8]; omega
        have HLL : Hid ((basS (xs.take k)).length ≤ 11) := by
          have := placed_len (xs.take k) (basF (xs.take k))
          have h2 : (xs.take k).length ≤ k := by simp; omega
          unfold Hid; unfold basS; omega
        have HW := Lib.hid hb.out.size
        clear hbs hxb HSN
        go_wp2_with (at_builtin; refine wpList_append_own _ rfl _ _ 38 rfl w2.heap.size 5 i0 (.int .u8 0) 1 1 Try.underlying38 hi hz0 hz1 hz2 rfl (by decide) _ _ _ rfl (ho.out.alloc _) ⟨_, 0, none⟩ 1 1 [.int .u8 x] rfl rfl (cell_one_new _ _ _) ?c2 ?c3 ?c4 ?c5 ?_)
        case c2 => first | rfl | (intro u hu; simp at hu; subst hu; rfl)
        case c3 => have := HLL.out; unfold maxLen; omega
        case c4 => have := HLL.out; omega
        case c5 => have := HW.out; simp; omega
        intro v1 w4 ho4 hg4 _
        have HO1 : Hid (w4.ownsRow w2.heap.size 5 1 v1 (basS (xs.take (k + 1))).length ((basS (xs.take (k + 1))).map (.int .u8))) := by unfold Hid; rw [HSN2.out]; simpa using ho4
        have HB4 : Hid (Below w2.heap.size w2 w4) := (hb.out.alloc HW.out _).grown hg4 (by have := HW.out; simp; omega) (fun j hj => (World.ownsRow.lt ho.out j hj).1)
        clear ho4 hg4
        go_wp2
        go_roundw
        case rel => exact ⟨k + 1, by go_num, by omega, HO1, HB4⟩
        case measure => simp [intOf]; omega
      | false =>
        have HO1 : Hid (wr.ownsRow w2.heap.size 5 1 u6 (basS (xs.take (k + 1))).length ((basS (xs.take (k + 1))).map (.int .u8))) := by unfold Hid; rw [HSN, hbs]; simpa using ho.out
        have hx128 : ¬ x < 128 := by unfold basB at hbs; exact of_decide_eq_false hbs
        clear hbs HSN
        go_wp2
        go_roundw
        case rel => exact ⟨k + 1, by go_num, by omega, HO1, hb⟩
        case measure => simp [intOf]; omega
    · obtain rfl : k = n := by omega
      have HO : Hid (wr.ownsRow w2.heap.size 5 1 u6 nb ((basS xs).map (.int .u8))) := by
        have := ho.out
        rw [List.take_of_length_le (by rw [HL.out]; exact Nat.le_refl _), HNB.out] at this
        exact this
      have HBW : Hid (Below w.heap.size w wr) := HB2.out.trans (hb.out.mono HB2.out.size)
      have hcv := conv_own HO.out
      obtain ⟨p6, c6, rfl⟩ := row_slice HO.out
      obtain ⟨P, hP⟩ : ∃ P, strOfNums (basS xs) = P := ⟨_, rfl⟩
      rw [hP] at hcv
      have hpf := HPF.out
      rw [hP] at hpf
      obtain ⟨hpf0, hpf1⟩ := hpf
      have hPs : P.size ≤ 11 := by rw [← hP, strOfNums_size, HNB.out]; omega
      clear hP HPF ho hb HO HO0 HBr HB2 HI2 HX HSC
      go_upto_if 36 with (fail)
      go_cut [9] from 37 to 38 (fun c wx => c = .string F ∧ wr = wx)
      case first =>
        by_cases hb0 : 0 < nb
        case neg =>
          have hPF := hpf0 (by omega)
          subst hPF
          clear hpf0 hpf1
          go_wp2
          go_meet
          exact ⟨rfl, rfl⟩
        case pos =>
          have hPF := hpf1 hb0
          clear hpf0 hpf1
          go_wp2
          go_meet
          exact ⟨rfl, rfl⟩
      case rest =>
        obtain ⟨rfl, rfl⟩ := hcut
        have hm := HM.out
        have hf := HF.out
        have hex := HEX.out
        clear hcv hpf0 hpf1 hPs
        go_wp2
        go_loopw [10] (fun u wx => ∃ k : Nat, u = .int .i64 k ∧ f ≤ k ∧ k ≤ m ∧ wr = wx) (fun u _ => m - (intOf u).toNat)
        case atStart => exact ⟨f, rfl, Nat.le_refl _, hfm, rfl⟩
        case round =>
          obtain ⟨j, rfl, hj0, hj1, rfl⟩ := hrel
          by_cases hjm : j < m
          · have hjs : j < S.size := by omega
            have hby := HBY.out j hjm hj0
            rw [nums_getN S j hjs] at hby
            obtain ⟨c, hc⟩ : ∃ c : Int, (S[j].toNat : Int) = c := ⟨_, rfl⟩
            rw [hc] at hby
            rcases hby with ⟨h1, h2⟩ | ⟨h1, h2⟩
            all_goals
              go_wp2
              go_roundw
              case rel =>
                refine ⟨j + 1, by go_num, by omega, ?_⟩
                first | omega | exact ⟨by omega, trivial⟩ | exact ⟨by omega, rfl⟩
              case measure => simp [intOf]; omega
          · obtain rfl : j = m := by omega
            go_wp2_with fail
            refine (awake10_any _).mono ?_
            rintro e w8 ⟨rfl, hb8⟩
            have HB8 := Lib.hid (HBW.out.trans (hb8.mono HBW.out.size))
            clear hb8
            by_cases hq : nb = k
            · have hmf : j = f := HMF.out.2 hq
              have e1 : ((j : Int) == (f : Int)) = true := by simp; omega
              have e2 : ((nb : Int) == (k : Int)) = true := by simp; omega
              go_wp2
              go_ret
              exact ⟨rfl, HB8.out⟩
            · have hmf : ¬ j = f := fun e => hq (HMF.out.1 e)
              have e1 : ((j : Int) == (f : Int)) = false := by simp; omega
              have e2 : ((nb : Int) == (k : Int)) = false := by simp; omega
              go_wp2
              go_ret
              exact ⟨rfl, HB8.out⟩

end Go.Proofs.Ytaakdcelbnghoaa.punyASCIIW
