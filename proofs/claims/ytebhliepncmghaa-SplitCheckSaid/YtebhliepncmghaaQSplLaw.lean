/-
  split's statements: awake, labels, and what the walks share.
-/
import Derived.Test.YtebhliepncmghaaQSplP
import Derived.Test.YtebhliepncmghaaQSameS
import Derived.Test.YtebhliepncmghaaQKeepPts
set_option linter.unusedSimpArgs false
set_option linter.unusedVariables false
namespace Go.Proofs.Ytebhliepncmghaa
open Go.RowKit
set_option linter.unusedVariables false

theorem strs_cells12 (w : World) (C : Array Value) (xs : List ByteArray) (t : TypeId) (h : C.toList = xs.map Value.string) : StrIn (w.alloc (.cells C t)) (some ⟨w.heap.size, 0, none⟩) xs := by
  intro k hk
  refine ⟨_, _, rfl, ?_⟩
  rw [Nat.zero_add, World.cell?_alloc_new, ← Array.getElem?_toList, h]
  simp [hk]

/-- What the frame of a law tells of a slice of slices of ints. -/
def IsLists (w : World) (a : Option Addr) (len cap : Nat) (L : List (List Int)) : Prop := LsIn w a L ∧ L.length = len ∧ len ≤ cap ∧ len ≤ 1048576 ∧ (joinD L).length ≤ 4194304

/-- What the frame of a law tells of a slice of strings. -/
def IsStrs (w : World) (a : Option Addr) (len cap : Nat) (l : List ByteArray) : Prop := StrIn w a l ∧ l.length = len ∧ len ≤ cap ∧ len ≤ 17592186043904

theorem cell_below {w w' : World} {p : Addr} {v : Value} (h : w.cell? p = some v) (hb : Below w.heap.size w w') : w'.cell? p = some v := (hb.cell (p := p) (World.block_lt_of_cell? w _ h)).trans h

set_option maxRecDepth 100000 in
set_option maxHeartbeats 2000000 in
theorem awake12_any (w : World) : Calls Try.prog 10 #[] w fun e w' => e = .returned (.bool true) ∧ Below w.heap.size w w' := by
  have h1 : Hid (cutD [97, 46, 46, 98] = [[97], [], [98]]) := by unfold Hid; decide +kernel
  have h2 : Hid (chkD (([ByteArray.mk #[97], ByteArray.mk #[], ByteArray.mk #[98]] : List ByteArray).map ByteArray.size) = (1, 10)) := by unfold Hid; decide +kernel
  have HL := Lib.hid (ints_lit_new w #[.int .i64 97, .int .i64 46, .int .i64 46, .int .i64 98] [97, 46, 46, 98] 3 rfl)
  have HB0 := Lib.hid ((Below.refl w.heap.size w).alloc (Nat.le_refl _) (.cells #[.int .i64 97, .int .i64 46, .int .i64 46, .int .i64 98] 3))
  go_enter Try.func10, Try.ntmps10
  go_wp2_with fail
  refine (labels_at _ 4 4 [97, 46, 46, 98] _ HL.out rfl (Nat.le_refl _) (by decide)).mono ?_
  rintro e w1 ⟨g, c, rfl, hnew, hb1⟩
  rw [h1.out] at hnew ⊢
  have HN := Lib.hid hnew
  have HB1 := Lib.hid (HB0.out.trans (hb1.mono HB0.out.size))
  clear hnew hb1 HL HB0
  have HS := Lib.hid (strs_cells12 w1 #[.string (ByteArray.mk #[97]), .string (ByteArray.mk #[]), .string (ByteArray.mk #[98])] [ByteArray.mk #[97], ByteArray.mk #[], ByteArray.mk #[98]] 9 rfl)
  have hba := (Below.refl w1.heap.size w1).alloc (Nat.le_refl _) (.cells #[.string (ByteArray.mk #[97]), .string (ByteArray.mk #[]), .string (ByteArray.mk #[98])] 9)
  replace HN := Lib.hid (HN.out.below hba)
  replace HB1 := Lib.hid (HB1.out.trans (hba.mono HB1.out.size))
  clear hba
  go_wp2_with fail
  refine (check_at _ 3 3 1 10 _ _ HS.out rfl (Nat.le_refl _) (by decide) h2).mono ?_
  rintro e w2 ⟨rfl, hb2⟩
  replace HN := Lib.hid (HN.out.below hb2)
  replace HB1 := Lib.hid (HB1.out.trans (hb2.mono HB1.out.size))
  clear hb2 HS h1 h2
  obtain ⟨v0, k0, ⟨q0, c0, rfl, _, hi0, _⟩, _⟩ := HN.out.hd 0 (by decide)
  obtain ⟨v1, k1, ⟨q1, c1, rfl, _, hi1, _⟩, _⟩ := HN.out.hd 1 (by decide)
  obtain ⟨v2, k2, ⟨q2, c2, rfl, _, hi2, _⟩, _⟩ := HN.out.hd 2 (by decide)
  simp only [List.getD_cons_zero, List.getD_cons_succ, List.length_cons, List.length_nil] at k0 k1 k2 hi0 hi1 hi2
  have HI0 := Lib.hid hi0
  have HI2 := Lib.hid hi2
  clear hi0 hi1 hi2
  have HL97 := Lib.hid (ints_lit_new w2 #[.int .i64 97] [97] 3 rfl)
  have hba := (Below.refl w2.heap.size w2).alloc (Nat.le_refl _) (.cells #[.int .i64 97] 3)
  replace HB1 := Lib.hid (HB1.out.trans (hba.mono HB1.out.size))
  replace HI0 := Lib.hid (HI0.out.below hba)
  replace HI2 := Lib.hid (HI2.out.below hba)
  have K1 := Lib.hid (cell_below k1 hba)
  have K2 := Lib.hid (cell_below k2 hba)
  clear hba HN
  go_wp2_with fail
  refine (sameI_at _ _ _ _ 1 1 [97] _ HI0.out HL97.out (by decide) rfl rfl).mono ?_
  rintro e w3 ⟨rfl, hb3⟩
  replace HB1 := Lib.hid (HB1.out.trans (hb3.mono HB1.out.size))
  replace HI2 := Lib.hid (HI2.out.below hb3)
  have k4 := cell_below K1.out hb3
  have k5 := cell_below K2.out hb3
  have HL98 := Lib.hid (ints_lit_new w3 #[.int .i64 98] [98] 3 rfl)
  have hba := (Below.refl w3.heap.size w3).alloc (Nat.le_refl _) (.cells #[.int .i64 98] 3)
  replace HB1 := Lib.hid (HB1.out.trans (hba.mono HB1.out.size))
  replace HI2 := Lib.hid (HI2.out.below hba)
  clear hb3 HL97 HI0 K1 K2 k0 k1 k2 hba
  go_wp2_with fail
  refine (sameI_at _ _ _ _ 1 1 [98] _ HI2.out HL98.out (by decide) rfl rfl).mono ?_
  rintro e w4 ⟨rfl, hb4⟩
  replace HB1 := Lib.hid (HB1.out.trans (hb4.mono HB1.out.size))
  clear hb4 k4 k5
  go_wp2
  go_ret
  exact ⟨rfl, HB1.out⟩

/-- What 'labels' leaves: up to seven short labels without a full stop. -/
def LbsPost (w : World) (e : Ending) (w' : World) : Prop :=
  ∃ (L : List ByteArray) (v : Value), e = .returned v ∧ Strs w' w.heap.size v L ∧ L.length ≤ 7 ∧ (∀ x ∈ L, x.size ≤ 64 ∧ (46 : Int) ∉ nums x) ∧ Below w.heap.size w w'

theorem no_dot_a : ∀ (x : ByteArray), (46 : Int) ∉ nums x → (46 : Int) ∉ nums (x ++ ByteArray.mk #[97]) := by
  intro x h hc
  rw [nums_append] at hc
  rcases List.mem_append.1 hc with h1 | h1
  · exact h h1
  · revert h1; decide +kernel

theorem lpick_next (g : Nat) (r : List Int) (n v : Int) (w : World) (hs : Src w g r) (h0 : 1 ≤ n) (h1 : n ≤ 1073741824) (hv : Hid (nextV r n = v)) :
    Calls Try.prog 27 #[.pointer (some ⟨g, 0, none⟩), .int .i64 n] w (NextPost g v r.tail w) := hv.out ▸ next_any g r n w hs h0 h1

/-- The state of the loop. -/
structure LbSt (w0 w : World) (g : Nat) (r : List Int) (v : Value) (L : List ByteArray) : Prop where
  src : Src w g r
  own : Strs w (g + 1) v L
  lt : g < w.heap.size
  bel : Below w0.heap.size w0 w
  lo : w0.heap.size ≤ g
  ok : ∀ x ∈ L, x.size ≤ 64 ∧ (46 : Int) ∉ nums x
theorem LbSt.next {w0 w w' : World} {g : Nat} {r r' : List Int} {v : Value} {L : List ByteArray} (h : LbSt w0 w g r v L) (hs : Src w' g r') (hg : w.grownBy w' (some g)) : LbSt w0 w' g r' v L where
  src := hs
  own := World.ownsRow.kept h.own hg (by
    cases hv : Value.ownBlock v with
    | none => simp
    | some b => have := (World.ownsRow.lt h.own b hv).1; simp; omega)
  lt := Nat.lt_of_lt_of_le h.lt hg.size
  bel := h.bel.grown hg h.bel.size (by intro j e; cases e; exact h.lo)
  lo := h.lo
  ok := h.ok

theorem LbSt.push {w0 w w7 : World} {g : Nat} {r : List Int} {v v7 : Value} {L : List ByteArray} (h : LbSt w0 w g r v L) {x : ByteArray} (hx : x.size ≤ 64 ∧ (46 : Int) ∉ nums x)
    (ho7 : w7.ownsRow (g + 1) 9 1 v7 (L.length + 1) (L.map Value.string ++ [.string x])) (hg7 : (w.alloc (.cells #[.string x] 9)).grownBy w7 v.ownBlock) : LbSt w0 w7 g r v7 (L ++ [x]) := by
  have hr : ∀ j, v.ownBlock = some j → g < j := fun j hj => by have := (World.ownsRow.lt h.own j hj).1; omega
  refine ⟨(h.src.alloc _).grown hg7 hr, ?_, ?_, (h.bel.alloc h.bel.size _).grown hg7 (by have := h.bel.size; simp; omega) (fun j hj => by have := hr j hj; have := h.lo; omega), h.lo, ?_⟩
  · unfold Strs; simpa using ho7
  · have h1 := hg7.size; have h2 := h.lt; simp at h1; omega
  · intro y hy
    rcases List.mem_append.1 hy with h1 | h1
    · exact h.ok y h1
    · rw [List.mem_singleton] at h1; subst h1; exact hx

set_option maxRecDepth 100000 in
set_option maxHeartbeats 4000000 in
theorem labs12_any (p : Option Addr) (n cap : Nat) (zs : List Int) (w : World) (hin : IntsIn w p zs) (hn : Hid (zs.length = n)) (hl : n ≤ 17592186043904) :
    Calls Try.prog 20 #[.slice p n cap] w (LbsPost w) := by
  have HI := Lib.hid hin
  clear hin
  obtain rfl := hn.out
  obtain ⟨v0, v1⟩ := nextV_bd zs 8 (by omega)
  obtain ⟨m, hm⟩ : ∃ m : Nat, nextV zs 8 = m := ⟨(nextV zs 8).toNat, by omega⟩
  have hm7 : m ≤ 7 := by omega
  have HN := Lib.hid hm
  clear v0 v1 hm
  obtain ⟨i0, hi, hz0, hz1, hz2⟩ := info_parts Try.info9
  go_enter Try.func20, Try.ntmps20
  go_wp2_with fail
  refine (from_any p cap zs _ HI.out hl).mono ?_
  rintro e w1 ⟨g, rfl, hg, hs1, hb1⟩
  have HS1 := Lib.hid hs1
  have HB1 := Lib.hid hb1
  clear hs1 hb1
  go_wp2_with fail
  refine (lpick_next g zs 8 m _ HS1.out (by omega) (by omega) HN).mono ?_
  rintro e w2 ⟨rfl, hs2, hg2⟩
  have HST : Hid (LbSt w w2 g zs.tail (.slice none 0 0) []) := ⟨hs2, Strs.nil _ _, by obtain ⟨_, _, _, _, _, _, _, h4, _⟩ := hs2; exact World.block_lt_of_cell? w2 _ h4, HB1.out.grown hg2 HB1.out.size (by intro k e; cases e; exact hg), hg, by simp⟩
  clear hs2 hg2 HS1 HB1
  go_wp2
  go_loopw [4, 5] (fun v u wr => ∃ (k : Nat) (L : List ByteArray) (r : List Int), k ≤ 7 ∧ u = .int .i64 k ∧ L.length + k ≤ 7 ∧ Hid (LbSt w wr g r v L)) (fun _ u _ => (intOf u).toNat)
  case atStart => exact ⟨m, [], zs.tail, hm7, rfl, by simpa using hm7, HST⟩
  case round =>
    clear HST
    obtain ⟨k, L, r, hk, rfl, hLk, hst⟩ := hrel
    by_cases h0 : 0 < k
    · obtain ⟨j, rfl⟩ : ∃ j, k = j + 1 := ⟨k - 1, by omega⟩
      obtain ⟨a, ha, hab⟩ : ∃ a : Nat, Hid (nextV r 6 = (a : Int)) ∧ a < 6 := by
        obtain ⟨h0, h1⟩ := nextV_bd r 6 (by omega)
        exact ⟨(nextV r 6).toNat, by unfold Hid; omega, by omega⟩
      go_wp2_with fail
      refine (lpick_next g r 6 a _ hst.out.src (by omega) (by omega) ha).mono ?_
      rintro e w3 ⟨rfl, hs3, hg3⟩
      have HS3 := Lib.hid (hst.out.next hs3 hg3)
      clear hs3 hg3 hst
      obtain ⟨b, hb, hbb⟩ : ∃ b : Nat, Hid (nextV r.tail 4 = (b : Int)) ∧ b < 4 := by
        obtain ⟨h0, h1⟩ := nextV_bd r.tail 4 (by omega)
        exact ⟨(nextV r.tail 4).toNat, by unfold Hid; omega, by omega⟩
      go_wp2_with fail
      refine (lpick_next g r.tail 4 b _ HS3.out.src (by omega) (by omega) hb).mono ?_
      rintro e w4 ⟨rfl, hs4, hg4⟩
      have HS4 := Lib.hid (HS3.out.next hs4 hg4)
      clear hs4 hg4 HS3
      go_upto_if 20 with (fail)
      go_cut [6] (fun c wx => ∃ (q : Nat) (r' : List Int), c = .int .i64 q ∧ q ≤ 64 ∧ Hid (LbSt w wx g r' u4 L))
      case first =>
        by_cases hb0 : b = 0
        · have d0 : ((b : Int) == 0) = true := by simp [hb0]
          obtain ⟨c, hc, hcb⟩ : ∃ c : Nat, Hid (nextV r.tail.tail 5 = (c : Int)) ∧ c < 5 := by
            obtain ⟨h0, h1⟩ := nextV_bd r.tail.tail 5 (by omega)
            exact ⟨(nextV r.tail.tail 5).toNat, by unfold Hid; omega, by omega⟩
          clear hb0
          go_wp2_with fail
          refine (lpick_next g r.tail.tail 5 c _ HS4.out.src (by omega) (by omega) hc).mono ?_
          rintro e w5 ⟨rfl, hs5, hg5⟩
          have HS5 := Lib.hid (HS4.out.next hs5 hg5)
          clear hs5 hg5
          go_wp2
          go_meet
          exact ⟨60 + c, _, by go_num, by omega, HS5⟩
        · have d0 : ((b : Int) == 0) = false := by simp [hb0]
          clear hb0
          go_wp2
          go_meet
          exact ⟨a, _, rfl, by omega, HS4⟩
      case rest =>
        obtain ⟨q, r', rfl, hq, hs5⟩ := hcut
        clear HS4 ha hb
        go_wp2
        go_loopw [6, 7] (fun kv xv wx => ∃ (q : Nat) (x : ByteArray), kv = .int .i64 q ∧ xv = .string x ∧ x.size + q ≤ 64 ∧ Hid ((46 : Int) ∉ nums x) ∧ Hid (LbSt w wx g r' u4 L)) (fun kv _ _ => (intOf kv).toNat)
        case atStart => exact ⟨q, ByteArray.mk #[], rfl, rfl, by rw [show (ByteArray.mk #[]).size = 0 from rfl]; omega, by unfold Hid; decide +kernel, hs5⟩
        case round =>
          clear hs5 hq
          obtain ⟨q, x, rfl, rfl, hxq, hx, hs5⟩ := hrel
          by_cases hq0 : 0 < q
          · obtain ⟨q', rfl⟩ : ∃ q', q = q' + 1 := ⟨q - 1, by omega⟩
            have HX2 : Hid ((46 : Int) ∉ nums (x ++ ByteArray.mk #[97])) := no_dot_a x hx.out
            have HXZ : Hid ((x ++ ByteArray.mk #[97]).size = x.size + 1) := by unfold Hid; rw [ByteArray.size_append]; rfl
            have h97 : (ByteArray.mk #[97]).size = 1 := rfl
            clear hx
            go_wp2
            go_roundw
            case rel => exact ⟨q', x ++ ByteArray.mk #[97], by go_num, rfl, by rw [HXZ.out]; omega, HX2, hs5⟩
            case measure => simp [intOf]
          · obtain rfl : q = 0 := by omega
            by_cases hx0 : x.size = 0
            · have d1 := size_zeroN x hx0
              obtain ⟨c, hc, hcb⟩ : ∃ c : Nat, Hid (nextV r' 3 = (c : Int)) ∧ c < 3 := by
                obtain ⟨h0, h1⟩ := nextV_bd r' 3 (by omega)
                exact ⟨(nextV r' 3).toNat, by unfold Hid; omega, by omega⟩
              by_cases hc0 : 0 < c
              · have hdc : decide ((0 : Int) < (c : Int)) = true := decide_eq_true (by omega)
                have HB : Hid ((ByteArray.mk #[98]).size ≤ 64 ∧ (46 : Int) ∉ nums (ByteArray.mk #[98])) := by unfold Hid; decide +kernel
                go_wp2_with (first | (go_at_call 27; refine (lpick_next g r' 3 c _ hs5.out.src (by omega) (by omega) hc).mono ?_; rintro e w6 ⟨rfl, hs6, hg6⟩; have HS6 := Lib.hid (hs5.out.next hs6 hg6); have HOWN := Lib.hid HS6.out.own; have HLT := Lib.hid HS6.out.lt; clear hs6 hg6) | (at_builtin; refine wpList_append_own_at _ rfl _ _ 31 rfl (g + 1) 9 i0 (.string ByteArray.empty) 1 16 Try.underlying31 hi hz0 hz1 hz2 rfl (by decide) u4 L.length (L.map Value.string) rfl (World.ownsRow.alloc HOWN.out (.cells #[.string (ByteArray.mk #[98])] 9)) ⟨_, 0, none⟩ 1 1 [.string (ByteArray.mk #[98])] rfl rfl (cell_one_new _ _ _) (by intro u hu; simp at hu; subst hu; rfl) (by unfold maxLen; omega) (by omega) (by have := HLT.out; simp; omega) ?_; intro v7 w7 ho7 hg7 _ _; have HS7 := Lib.hid (HS6.out.push HB.out ho7 hg7); clear ho7 hg7))
                go_roundw
                case rel => exact ⟨j, L ++ [ByteArray.mk #[98]], _, by omega, by go_num, by simp; omega, HS7⟩
                case measure => simp [intOf]
              · have hdc : decide ((0 : Int) < (c : Int)) = false := decide_eq_false (by omega)
                have hdn : decide (0 < c) = false := decide_eq_false hc0
                have HB : Hid (x.size ≤ 64 ∧ (46 : Int) ∉ nums x) := ⟨by omega, hx.out⟩
                go_wp2_with (first | (go_at_call 27; refine (lpick_next g r' 3 c _ hs5.out.src (by omega) (by omega) hc).mono ?_; rintro e w6 ⟨rfl, hs6, hg6⟩; have HS6 := Lib.hid (hs5.out.next hs6 hg6); have HOWN := Lib.hid HS6.out.own; have HLT := Lib.hid HS6.out.lt; clear hs6 hg6) | (at_builtin; refine wpList_append_own_at _ rfl _ _ 31 rfl (g + 1) 9 i0 (.string ByteArray.empty) 1 16 Try.underlying31 hi hz0 hz1 hz2 rfl (by decide) u4 L.length (L.map Value.string) rfl (World.ownsRow.alloc HOWN.out (.cells #[.string x] 9)) ⟨_, 0, none⟩ 1 1 [.string x] rfl rfl (cell_one_new _ _ _) (by intro u hu; simp at hu; subst hu; rfl) (by unfold maxLen; omega) (by omega) (by have := HLT.out; simp; omega) ?_; intro v7 w7 ho7 hg7 _ _; have HS7 := Lib.hid (HS6.out.push HB.out ho7 hg7); clear ho7 hg7))
                go_roundw
                case rel => exact ⟨j, L ++ [x], _, by omega, by go_num, by simp; omega, HS7⟩
                case measure => simp [intOf]
            · have d1 := size_posN x hx0
              have HB : Hid (x.size ≤ 64 ∧ (46 : Int) ∉ nums x) := ⟨by omega, hx.out⟩
              have HOWN := Lib.hid hs5.out.own
              have HLT := Lib.hid hs5.out.lt
              go_wp2_with (at_builtin; refine wpList_append_own_at _ rfl _ _ 31 rfl (g + 1) 9 i0 (.string ByteArray.empty) 1 16 Try.underlying31 hi hz0 hz1 hz2 rfl (by decide) u4 L.length (L.map Value.string) rfl (World.ownsRow.alloc HOWN.out (.cells #[.string x] 9)) ⟨_, 0, none⟩ 1 1 [.string x] rfl rfl (cell_one_new _ _ _) (by intro u hu; simp at hu; subst hu; rfl) (by unfold maxLen; omega) (by omega) (by have := HLT.out; simp; omega) ?_; intro v7 w7 ho7 hg7 _ _; have HS7 := Lib.hid (hs5.out.push HB.out ho7 hg7); clear ho7 hg7)
              go_roundw
              case rel => exact ⟨j, L ++ [x], _, by omega, by go_num, by simp; omega, HS7⟩
              case measure => simp [intOf]
    · obtain rfl : k = 0 := by omega
      have HO : Hid (Strs wr w.heap.size u4 L) := ownsRow_mono hst.out.own (by have := hst.out.lo; omega)
      have HB := Lib.hid hst.out.bel
      have HOK := Lib.hid hst.out.ok
      clear hst
      go_wp2
      go_ret
      exact ⟨L, _, rfl, HO.out, by omega, HOK.out, HB.out⟩

end Go.Proofs.Ytebhliepncmghaa
