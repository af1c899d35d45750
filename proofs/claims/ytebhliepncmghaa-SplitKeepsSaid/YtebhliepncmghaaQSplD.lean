/-
  split.divide: the parts of a slice, which share memory with it.
-/
import Derived.Test.YtebhliepncmghaaQSplRD
import Derived.Test.YtebhliepncmghaaPkL
set_option linter.unusedSimpArgs false
set_option linter.unusedVariables false
namespace Go.Proofs.Ytebhliepncmghaa
open Go.RowKit
set_option linter.unusedVariables false

/-- A part of a slice that is only read. -/
def Part (kd : IntKind) (w : World) (v : Value) (x : List Int) : Prop := ∃ q c, v = .slice q x.length c ∧ x.length ≤ c ∧ RowIn kd w q x
theorem Part.below {kd : IntKind} {w w' : World} {v : Value} {x : List Int} (h : Part kd w v x) (hb : Below w.heap.size w w') : Part kd w' v x := by
  obtain ⟨q, c, e, hl, hi⟩ := h
  exact ⟨q, c, e, hl, hi.below hb⟩

/-- A slice of parts: the row is the call's own, the parts lie in memory that was there in w0. -/
structure Parts (kd : IntKind) (T : TypeId) (w0 w : World) (B : Nat) (u : Value) (L : List (List Int)) (Vs : List Value) : Prop where
  own : w.ownsRow B T 1 u L.length Vs
  len : Vs.length = L.length
  part : ∀ j, j < L.length → Part kd w0 (Vs.getD j (.slice none 0 0)) (L.getD j [])
theorem Parts.nil (kd : IntKind) (T : TypeId) (w0 w : World) (B : Nat) : Parts kd T w0 w B (.slice none 0 0) [] [] := ⟨World.ownsRow_nil _ _ _ _, rfl, fun j h => by simp at h⟩
theorem Parts.push {kd : IntKind} {T : TypeId} {w0 w w4 : World} {B n : Nat} {u v' x : Value} {L : List (List Int)} {Vs : List Value} {y : List Int} (h : Parts kd T w0 w B u L Vs) (hn : L.length = n)
    (ho : w4.ownsRow B T 1 v' (n + 1) (Vs ++ [x])) (hx : Part kd w0 x y) : Parts kd T w0 w4 B v' (L ++ [y]) (Vs ++ [x]) := by
  subst hn
  refine ⟨by simpa using ho, by simp [h.len], fun j hj => ?_⟩
  by_cases e : j = L.length
  · subst e
    rw [getD_app_at, ← h.len, getD_app_at]
    exact hx
  · have hj2 : j < L.length := by simp at hj; omega
    rw [getD_app_lt _ _ _ _ hj2, getD_app_lt _ _ _ _ (by rw [h.len]; exact hj2)]
    exact h.part j hj2
theorem row_cut {kd : IntKind} {w : World} {b off : Nat} {l : List Int} (hin : RowIn kd w (some ⟨b, off, none⟩) l) (st k : Nat) (hk : k ≤ l.length) : RowIn kd w (some ⟨b, off + st, none⟩) ((l.take k).drop st) := by
  intro j hj
  have hj2 : st + j < k := by simp at hj; omega
  obtain ⟨b', off', e, hc⟩ := hin (st + j) (by omega)
  cases e
  refine ⟨_, _, rfl, ?_⟩
  rw [show off + st + j = off + (st + j) by omega, hc]
  have h1 : st + j < l.length := by omega
  simp [List.getD, hj2, h1]
theorem cut_len (l : List Int) (st k : Nat) (hk : k ≤ l.length) : ((l.take k).drop st).length = k - st := by simp; omega
theorem take_drop_snoc (l : List Int) (st k : Nat) (hs : st ≤ k) (hk : k < l.length) : (l.take (k + 1)).drop st = (l.take k).drop st ++ [l.getD k 0] := by
  rw [take_snoc_int l k hk, List.drop_append_of_le_length (by simp; omega)]

theorem Try.infoBytes : (Try.prog.info? 43).map (fun i => (i.zero, i.size, i.bytes)) = some (some (.slice none 0 0), 1, 24) := by kernel_rfl

/-- What divide leaves. -/
def DivPost (kd : IntKind) (T : TypeId) (L : List (List Int)) (w : World) (e : Ending) (w' : World) : Prop :=
  ∃ g c Vs, e = .returned (.slice (some ⟨g, 0, none⟩) L.length c) ∧ L.length ≤ c ∧ Parts kd T w w' w.heap.size (.slice (some ⟨g, 0, none⟩) L.length c) L Vs ∧ Below w.heap.size w w'

set_option maxRecDepth 100000 in
set_option maxHeartbeats 4000000 in
theorem divI_at (p : Option Addr) (n cap : Nat) (l : List Int) (w : World) (hin : RowIn .i64 w p l) (hn : Hid (l.length = n)) (hcap : n ≤ cap) (hn2 : n ≤ 1099511627776) :
    Calls Try.prog 29 #[.slice p n cap] w (DivPost .i64 22 (cutD l) w) := by
  have HI := Lib.hid hin
  clear hin
  obtain ⟨i0, hi, hz0, hz1, hz2⟩ := info_parts Try.info22
  by_cases hp : ∃ b off, p = some ⟨b, off, none⟩
  · obtain ⟨b, off, rfl⟩ := hp
    go_enter Try.func29, Try.ntmps29
    go_wp2
    go_loopw [3, 4, 9] (fun u s i wr => ∃ (k st dn : Nat) (D : List (List Int)) (Vs : List Value), k ≤ n ∧ st ≤ k ∧ i = .int .i64 k ∧ s = .int .i64 st ∧ dn ≤ k ∧ Hid (D.length = dn) ∧ Hid (cutG D ((l.take k).drop st) (l.drop k) = cutD l) ∧ Hid (Parts .i64 22 w wr w.heap.size u D Vs) ∧ Hid (Below w.heap.size w wr)) (fun _ _ i _ => n - (intOf i).toNat)
    case atStart => exact ⟨0, 0, 0, [], [], Nat.zero_le _, Nat.le_refl _, rfl, rfl, Nat.le_refl _, rfl, rfl, Parts.nil _ _ _ _ _, Below.refl _ _⟩
    case round =>
      obtain ⟨k, st, dn, D, Vs, hk, hst, rfl, rfl, hd, HDN, hcut, hps, hbel⟩ := hrel
      have hown := hps.out.own
      rw [HDN.out] at hown
      have HOWN := Lib.hid hown
      have HSZ := Lib.hid hbel.out.size
      clear hown
      by_cases hlt : k < n
      · have hkl : k < l.length := by rw [hn.out]; exact hlt
        obtain ⟨b', off', e, hck⟩ := (HI.out.below hbel.out) k hkl
        cases e
        obtain ⟨c, hc⟩ : ∃ c, l.getD k 0 = c := ⟨_, rfl⟩
        rw [hc] at hck
        by_cases e : c = 46
        · subst e
          have hcs : ¬ cap = st := by omega
          have hPT : Part .i64 w (.slice (some ⟨b, off + st, none⟩) (k - st) (cap - st)) ((l.take k).drop st) :=
            ⟨some ⟨b, off + st, none⟩, cap - st, by rw [cut_len l st k (by omega)], by rw [cut_len l st k (by omega)]; omega, row_cut HI.out st k (by omega)⟩
          have HPT := Lib.hid hPT
          have HC : Hid (cutG (D ++ [(l.take k).drop st]) ((l.take (k + 1)).drop (k + 1)) (l.drop (k + 1)) = cutD l) := by
            unfold Hid
            rw [List.drop_of_length_le (l := l.take (k + 1)) (by simp; omega), ← cut_dot hkl hc]; exact hcut.out
          clear hc hkl hcut hPT
          go_wp2_with (at_builtin; refine wpList_append_own_at _ rfl _ _ 23 rfl w.heap.size 22 i0 (.slice none 0 0) 1 24 Try.underlying23 hi hz0 hz1 hz2 rfl (by decide) _ dn Vs rfl (World.ownsRow.alloc HOWN.out (.cells #[.slice (some ⟨b, off + st, none⟩) (k - st) (cap - st)] 22)) ⟨_, 0, none⟩ 1 1 [.slice (some ⟨b, off + st, none⟩) (k - st) (cap - st)] rfl rfl (cell_one_new _ _ _) (by intro u hu; simp at hu; subst hu; rfl) (by unfold maxLen; omega) (by omega) (by have := HSZ.out; simp; omega) ?_; intro v5 w5 ho5 hg5 _ hv5)
          have HP5 : Hid (Parts .i64 22 w w5 w.heap.size v5 (D ++ [(l.take k).drop st]) (Vs ++ [.slice (some ⟨b, off + st, none⟩) (k - st) (cap - st)])) := hps.out.push HDN.out ho5 HPT.out
          have HB5 : Hid (Below w.heap.size w w5) := (hbel.out.alloc HSZ.out _).grown hg5 (by have := HSZ.out; simp; omega) (fun j hj => (World.ownsRow.lt HOWN.out j hj).1)
          have HDN5 : Hid ((D ++ [(l.take k).drop st]).length = dn + 1) := by unfold Hid; simp [HDN.out]
          clear ho5 hg5 hv5 HOWN hps HPT
          go_wp2
          go_roundw
          case rel => exact ⟨k + 1, k + 1, dn + 1, _, _, by omega, by omega, by go_num, by go_num, by omega, HDN5, HC, HP5, HB5⟩
          case measure => simp [intOf]; omega
        · have d1 : (c == 46) = false := by simp [e]
          have HC : Hid (cutG D ((l.take (k + 1)).drop st) (l.drop (k + 1)) = cutD l) := by
            unfold Hid
            rw [take_drop_snoc l st k hst hkl, hc, ← cut_no hkl hc e]; exact hcut.out
          clear hc hkl hcut e HOWN
          go_wp2
          go_roundw
          case rel => exact ⟨k + 1, st, dn, D, Vs, by omega, by omega, by go_num, rfl, by omega, HDN, HC, hps, hbel⟩
          case measure => simp [intOf]; omega
      · obtain rfl : k = n := by omega
        obtain ⟨P, hP⟩ : ∃ P, (if cap = st then some (⟨b, off, none⟩ : Addr) else some ⟨b, off + st, none⟩) = P := ⟨_, rfl⟩
        have HE : Hid (D ++ [l.drop st] = cutD l) := by
          have := hcut.out
          rwa [cut_end (by rw [hn.out]; exact Nat.le_refl _), List.take_of_length_le (by rw [hn.out]; exact Nat.le_refl _)] at this
        have hPT : Part .i64 w (.slice P (k - st) (cap - st)) (l.drop st) := by
          refine ⟨P, cap - st, by simp [hn.out], by simp [hn.out]; omega, ?_⟩
          have h1 := row_cut HI.out st k (by rw [hn.out]; exact Nat.le_refl _)
          rw [List.take_of_length_le (by rw [hn.out]; exact Nat.le_refl _)] at h1
          rw [← hP]
          by_cases e : cap = st
          · rw [List.drop_of_length_le (by rw [hn.out]; omega)]
            intro j hj
            simp at hj
          · rw [if_neg e]; exact h1
        have HPT := Lib.hid hPT
        clear hPT hcut
        go_wp2_with (at_builtin; refine wpList_append_own_at _ rfl _ _ 23 rfl w.heap.size 22 i0 (.slice none 0 0) 1 24 Try.underlying23 hi hz0 hz1 hz2 rfl (by decide) _ dn Vs rfl (World.ownsRow.alloc HOWN.out (.cells #[.slice P (k - st) (cap - st)] 22)) ⟨_, 0, none⟩ 1 1 [.slice P (k - st) (cap - st)] rfl rfl (cell_one_new _ _ _) (by intro u hu; simp at hu; subst hu; rfl) (by unfold maxLen; omega) (by omega) (by have := HSZ.out; simp; omega) ?_; intro v5 w5 ho5 hg5 _ hv5)
        have hp5 : Parts .i64 22 w w5 w.heap.size v5 (D ++ [l.drop st]) (Vs ++ [.slice P (k - st) (cap - st)]) := hps.out.push HDN.out ho5 HPT.out
        rw [HE.out] at hp5
        have HP5 := Lib.hid hp5
        have HB5 : Hid (Below w.heap.size w w5) := (hbel.out.alloc HSZ.out _).grown hg5 (by have := HSZ.out; simp; omega) (fun j hj => (World.ownsRow.lt HOWN.out j hj).1)
        have HL5 : Hid ((cutD l).length = dn + 1) := by unfold Hid; rw [← HE.out]; simp [HDN.out]
        obtain ⟨g5, c5, rfl, hc5⟩ : ∃ g5 c5, v5 = .slice (some ⟨g5, 0, none⟩) (dn + 1) c5 ∧ dn + 1 ≤ c5 := by
          rcases ho5.2 with ⟨_, h⟩ | ⟨g5, c5, cur5, h, _, _, hc5, _⟩
          · omega
          · exact ⟨g5, c5, h, hc5⟩
        clear ho5 hg5 hv5 HOWN hps HPT hp5 hP
        go_wp2
        go_ret
        exact ⟨g5, c5, _, by rw [HL5.out]; rfl, by rw [HL5.out]; exact hc5, by rw [HL5.out]; exact HP5.out, HB5.out⟩
  · have hl : l = [] := by
      cases l with
      | nil => rfl
      | cons x r =>
        obtain ⟨b, off, e, _⟩ := HI.out 0 (by simp)
        exact absurd ⟨b, off, e⟩ hp
    subst hl
    have hn0 : n = 0 := hn.out.symm
    subst hn0
    clear hp hn HI
    go_enter Try.func29, Try.ntmps29
    go_wp2
    go_loopw [3, 4, 9] (fun u s i wr => s = .int .i64 (0 : Nat) ∧ i = .int .i64 (0 : Nat) ∧ Hid (Parts .i64 22 w wr w.heap.size u [] []) ∧ wr = w) (fun _ _ i _ => 0)
    case atStart => exact ⟨rfl, rfl, Parts.nil _ _ _ _ _, rfl⟩
    case round =>
      obtain ⟨rfl, rfl, hps, rfl⟩ := hrel
      have HOWN := Lib.hid hps.out.own
      go_wp2_with (at_builtin; refine wpList_append_own_at _ rfl _ _ 23 rfl wr.heap.size 22 i0 (.slice none 0 0) 1 24 Try.underlying23 hi hz0 hz1 hz2 rfl (by decide) _ 0 [] rfl (World.ownsRow.alloc HOWN.out (.cells #[.slice p 0 cap] 22)) ⟨_, 0, none⟩ 1 1 [.slice p 0 cap] rfl rfl (cell_one_new _ _ _) (by intro u hu; simp at hu; subst hu; rfl) (by unfold maxLen; omega) (by omega) (by simp) ?_; intro v5 w5 ho5 hg5 _ hv5)
      have hp5 : Parts .i64 22 wr w5 wr.heap.size v5 ([] ++ [[]]) ([] ++ [.slice p 0 cap]) := hps.out.push rfl ho5 ⟨p, cap, rfl, Nat.zero_le _, fun j hj => by simp at hj⟩
      have HP5 := Lib.hid hp5
      have HB5 : Hid (Below wr.heap.size wr w5) := ((Below.refl _ _).alloc (Nat.le_refl _) _).grown hg5 (by simp) (fun j hj => (World.ownsRow.lt HOWN.out j hj).1)
      obtain ⟨g5, c5, rfl, hc5⟩ : ∃ g5 c5, v5 = .slice (some ⟨g5, 0, none⟩) 1 c5 ∧ 1 ≤ c5 := by
        rcases ho5.2 with ⟨_, h⟩ | ⟨g5, c5, cur5, h, _, _, hc5, _⟩
        · omega
        · exact ⟨g5, c5, h, hc5⟩
      clear ho5 hg5 hv5 HOWN hps hp5
      go_wp2
      go_ret
      exact ⟨g5, c5, _, rfl, hc5, HP5.out, HB5.out⟩

set_option maxRecDepth 100000 in
set_option maxHeartbeats 4000000 in
theorem divB_at (p : Option Addr) (n cap : Nat) (l : List Int) (w : World) (hin : RowIn .u8 w p l) (hn : Hid (l.length = n)) (hcap : n ≤ cap) (hn2 : n ≤ 1099511627776) :
    Calls Try.prog 30 #[.slice p n cap] w (DivPost .u8 43 (cutD l) w) := by
  have HI := Lib.hid hin
  clear hin
  obtain ⟨i0, hi, hz0, hz1, hz2⟩ := info_parts Try.infoBytes
  by_cases hp : ∃ b off, p = some ⟨b, off, none⟩
  · obtain ⟨b, off, rfl⟩ := hp
    go_enter Try.func30, Try.ntmps30
    go_wp2
    go_loopw [3, 4, 9] (fun u s i wr => ∃ (k st dn : Nat) (D : List (List Int)) (Vs : List Value), k ≤ n ∧ st ≤ k ∧ i = .int .i64 k ∧ s = .int .i64 st ∧ dn ≤ k ∧ Hid (D.length = dn) ∧ Hid (cutG D ((l.take k).drop st) (l.drop k) = cutD l) ∧ Hid (Parts .u8 43 w wr w.heap.size u D Vs) ∧ Hid (Below w.heap.size w wr)) (fun _ _ i _ => n - (intOf i).toNat)
    case atStart => exact ⟨0, 0, 0, [], [], Nat.zero_le _, Nat.le_refl _, rfl, rfl, Nat.le_refl _, rfl, rfl, Parts.nil _ _ _ _ _, Below.refl _ _⟩
    case round =>
      obtain ⟨k, st, dn, D, Vs, hk, hst, rfl, rfl, hd, HDN, hcut, hps, hbel⟩ := hrel
      have hown := hps.out.own
      rw [HDN.out] at hown
      have HOWN := Lib.hid hown
      have HSZ := Lib.hid hbel.out.size
      clear hown
      by_cases hlt : k < n
      · have hkl : k < l.length := by rw [hn.out]; exact hlt
        obtain ⟨b', off', e, hck⟩ := (HI.out.below hbel.out) k hkl
        cases e
        obtain ⟨c, hc⟩ : ∃ c, l.getD k 0 = c := ⟨_, rfl⟩
        rw [hc] at hck
        by_cases e : c = 46
        · subst e
          have hcs : ¬ cap = st := by omega
          have hPT : Part .u8 w (.slice (some ⟨b, off + st, none⟩) (k - st) (cap - st)) ((l.take k).drop st) :=
            ⟨some ⟨b, off + st, none⟩, cap - st, by rw [cut_len l st k (by omega)], by rw [cut_len l st k (by omega)]; omega, row_cut HI.out st k (by omega)⟩
          have HPT := Lib.hid hPT
          have HC : Hid (cutG (D ++ [(l.take k).drop st]) ((l.take (k + 1)).drop (k + 1)) (l.drop (k + 1)) = cutD l) := by
            unfold Hid
            rw [List.drop_of_length_le (l := l.take (k + 1)) (by simp; omega), ← cut_dot hkl hc]; exact hcut.out
          clear hc hkl hcut hPT
          go_wp2_with (at_builtin; refine wpList_append_own_at _ rfl _ _ 50 rfl w.heap.size 43 i0 (.slice none 0 0) 1 24 Try.underlying50 hi hz0 hz1 hz2 rfl (by decide) _ dn Vs rfl (World.ownsRow.alloc HOWN.out (.cells #[.slice (some ⟨b, off + st, none⟩) (k - st) (cap - st)] 43)) ⟨_, 0, none⟩ 1 1 [.slice (some ⟨b, off + st, none⟩) (k - st) (cap - st)] rfl rfl (cell_one_new _ _ _) (by intro u hu; simp at hu; subst hu; rfl) (by unfold maxLen; omega) (by omega) (by have := HSZ.out; simp; omega) ?_; intro v5 w5 ho5 hg5 _ hv5)
          have HP5 : Hid (Parts .u8 43 w w5 w.heap.size v5 (D ++ [(l.take k).drop st]) (Vs ++ [.slice (some ⟨b, off + st, none⟩) (k - st) (cap - st)])) := hps.out.push HDN.out ho5 HPT.out
          have HB5 : Hid (Below w.heap.size w w5) := (hbel.out.alloc HSZ.out _).grown hg5 (by have := HSZ.out; simp; omega) (fun j hj => (World.ownsRow.lt HOWN.out j hj).1)
          have HDN5 : Hid ((D ++ [(l.take k).drop st]).length = dn + 1) := by unfold Hid; simp [HDN.out]
          clear ho5 hg5 hv5 HOWN hps HPT
          go_wp2
          go_roundw
          case rel => exact ⟨k + 1, k + 1, dn + 1, _, _, by omega, by omega, by go_num, by go_num, by omega, HDN5, HC, HP5, HB5⟩
          case measure => simp [intOf]; omega
        · have d1 : (c == 46) = false := by simp [e]
          have HC : Hid (cutG D ((l.take (k + 1)).drop st) (l.drop (k + 1)) = cutD l) := by
            unfold Hid
            rw [take_drop_snoc l st k hst hkl, hc, ← cut_no hkl hc e]; exact hcut.out
          clear hc hkl hcut e HOWN
          go_wp2
          go_roundw
          case rel => exact ⟨k + 1, st, dn, D, Vs, by omega, by omega, by go_num, rfl, by omega, HDN, HC, hps, hbel⟩
          case measure => simp [intOf]; omega
      · obtain rfl : k = n := by omega
        obtain ⟨P, hP⟩ : ∃ P, (if cap = st then some (⟨b, off, none⟩ : Addr) else some ⟨b, off + st, none⟩) = P := ⟨_, rfl⟩
        have HE : Hid (D ++ [l.drop st] = cutD l) := by
          have := hcut.out
          rwa [cut_end (by rw [hn.out]; exact Nat.le_refl _), List.take_of_length_le (by rw [hn.out]; exact Nat.le_refl _)] at this
        have hPT : Part .u8 w (.slice P (k - st) (cap - st)) (l.drop st) := by
          refine ⟨P, cap - st, by simp [hn.out], by simp [hn.out]; omega, ?_⟩
          have h1 := row_cut HI.out st k (by rw [hn.out]; exact Nat.le_refl _)
          rw [List.take_of_length_le (by rw [hn.out]; exact Nat.le_refl _)] at h1
          rw [← hP]
          by_cases e : cap = st
          · rw [List.drop_of_length_le (by rw [hn.out]; omega)]
            intro j hj
            simp at hj
          · rw [if_neg e]; exact h1
        have HPT := Lib.hid hPT
        clear hPT hcut
        go_wp2_with (at_builtin; refine wpList_append_own_at _ rfl _ _ 50 rfl w.heap.size 43 i0 (.slice none 0 0) 1 24 Try.underlying50 hi hz0 hz1 hz2 rfl (by decide) _ dn Vs rfl (World.ownsRow.alloc HOWN.out (.cells #[.slice P (k - st) (cap - st)] 43)) ⟨_, 0, none⟩ 1 1 [.slice P (k - st) (cap - st)] rfl rfl (cell_one_new _ _ _) (by intro u hu; simp at hu; subst hu; rfl) (by unfold maxLen; omega) (by omega) (by have := HSZ.out; simp; omega) ?_; intro v5 w5 ho5 hg5 _ hv5)
        have hp5 : Parts .u8 43 w w5 w.heap.size v5 (D ++ [l.drop st]) (Vs ++ [.slice P (k - st) (cap - st)]) := hps.out.push HDN.out ho5 HPT.out
        rw [HE.out] at hp5
        have HP5 := Lib.hid hp5
        have HB5 : Hid (Below w.heap.size w w5) := (hbel.out.alloc HSZ.out _).grown hg5 (by have := HSZ.out; simp; omega) (fun j hj => (World.ownsRow.lt HOWN.out j hj).1)
        have HL5 : Hid ((cutD l).length = dn + 1) := by unfold Hid; rw [← HE.out]; simp [HDN.out]
        obtain ⟨g5, c5, rfl, hc5⟩ : ∃ g5 c5, v5 = .slice (some ⟨g5, 0, none⟩) (dn + 1) c5 ∧ dn + 1 ≤ c5 := by
          rcases ho5.2 with ⟨_, h⟩ | ⟨g5, c5, cur5, h, _, _, hc5, _⟩
          · omega
          · exact ⟨g5, c5, h, hc5⟩
        clear ho5 hg5 hv5 HOWN hps HPT hp5 hP
        go_wp2
        go_ret
        exact ⟨g5, c5, _, by rw [HL5.out]; rfl, by rw [HL5.out]; exact hc5, by rw [HL5.out]; exact HP5.out, HB5.out⟩
  · have hl : l = [] := by
      cases l with
      | nil => rfl
      | cons x r =>
        obtain ⟨b, off, e, _⟩ := HI.out 0 (by simp)
        exact absurd ⟨b, off, e⟩ hp
    subst hl
    have hn0 : n = 0 := hn.out.symm
    subst hn0
    clear hp hn HI
    go_enter Try.func30, Try.ntmps30
    go_wp2
    go_loopw [3, 4, 9] (fun u s i wr => s = .int .i64 (0 : Nat) ∧ i = .int .i64 (0 : Nat) ∧ Hid (Parts .u8 43 w wr w.heap.size u [] []) ∧ wr = w) (fun _ _ i _ => 0)
    case atStart => exact ⟨rfl, rfl, Parts.nil _ _ _ _ _, rfl⟩
    case round =>
      obtain ⟨rfl, rfl, hps, rfl⟩ := hrel
      have HOWN := Lib.hid hps.out.own
      go_wp2_with (at_builtin; refine wpList_append_own_at _ rfl _ _ 50 rfl wr.heap.size 43 i0 (.slice none 0 0) 1 24 Try.underlying50 hi hz0 hz1 hz2 rfl (by decide) _ 0 [] rfl (World.ownsRow.alloc HOWN.out (.cells #[.slice p 0 cap] 43)) ⟨_, 0, none⟩ 1 1 [.slice p 0 cap] rfl rfl (cell_one_new _ _ _) (by intro u hu; simp at hu; subst hu; rfl) (by unfold maxLen; omega) (by omega) (by simp) ?_; intro v5 w5 ho5 hg5 _ hv5)
      have hp5 : Parts .u8 43 wr w5 wr.heap.size v5 ([] ++ [[]]) ([] ++ [.slice p 0 cap]) := hps.out.push rfl ho5 ⟨p, cap, rfl, Nat.zero_le _, fun j hj => by simp at hj⟩
      have HP5 := Lib.hid hp5
      have HB5 : Hid (Below wr.heap.size wr w5) := ((Below.refl _ _).alloc (Nat.le_refl _) _).grown hg5 (by simp) (fun j hj => (World.ownsRow.lt HOWN.out j hj).1)
      obtain ⟨g5, c5, rfl, hc5⟩ : ∃ g5 c5, v5 = .slice (some ⟨g5, 0, none⟩) 1 c5 ∧ 1 ≤ c5 := by
        rcases ho5.2 with ⟨_, h⟩ | ⟨g5, c5, cur5, h, _, _, hc5, _⟩
        · omega
        · exact ⟨g5, c5, h, hc5⟩
      clear ho5 hg5 hv5 HOWN hps hp5
      go_wp2
      go_ret
      exact ⟨g5, c5, _, rfl, hc5, HP5.out, HB5.out⟩

end Go.Proofs.Ytebhliepncmghaa
