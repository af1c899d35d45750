/-
  The reference of decoding: mappings.
  The reference of decoding: what is read, item by item (no walk); the arrays of the call.
  The reference of decoding: Decode (genDR.py).
  decodes: Decode and its reference return the same tables and the same error.
  The walk of TableDecode (genTX.py).
-/
import Derived.Test.YtnnhcgflmhjakaaGreatDoorPkP
import Derived.Test.YtnnhcgflmhjakaaGreatDoorPkX
import Derived.Test.YtnnhcgflmhjakaaGreatDoorQDecE
import Derived.Test.YtnnhcgflmhjakaaGreatDoorPkM
import Derived.Test.YtnnhcgflmhjakaaGreatDoorQTabRO
import Derived.Test.YtnnhcgflmhjakaaGreatDoorQDamEnv
import Derived.Test.YtnnhcgflmhjakaaGreatDoorPkL
import Derived.Test.YtnnhcgflmhjakaaGreatDoorPkV
set_option linter.unusedSimpArgs false
set_option linter.unusedVariables false
namespace Go.Proofs.YtnnhcgflmhjakaaGreatDoor
open Go Go.RowKit
set_option linter.unusedVariables false

theorem qdI_ok {s : ByteArray} {i n i1 : Int} (h : getS s i = (n, i1, 0)) : rdI s i 0 = (n, i1, 0) := by simp [rdI, h]
theorem qdI_er {s : ByteArray} {i n i1 e : Int} (h : getS s i = (n, i1, e)) (he : e ≠ 0) : rdI s i 0 = (0, i, e) := by simp [rdI, h, he]
theorem qdL_ok {s : ByteArray} {i i1 : Int} {L : List Int} (h : getListS s i = (L, i1, 0)) : rdL s i 0 = (L, i1, 0) := by simp [rdL, h]
theorem qdL_er {s : ByteArray} {i i1 e : Int} {L : List Int} (h : getListS s i = (L, i1, e)) (he : e ≠ 0) : rdL s i 0 = ([], i, e) := by simp [rdL, h, he]
theorem qdS_ok {s : ByteArray} {i i1 : Int} {L : List Sp} (h : getSpansS s i = (L, i1, 0)) : rdS s i 0 = (L, i1, 0) := by simp [rdS, h]
theorem qdS_er {s : ByteArray} {i i1 e : Int} {L : List Sp} (h : getSpansS s i = (L, i1, e)) (he : e ≠ 0) : rdS s i 0 = ([], i, e) := by simp [rdS, h, he]
theorem qdI_st (s : ByteArray) {i e : Int} (he : e ≠ 0) : rdI s i e = (0, i, e) := by simp [rdI, he]
theorem qdL_st (s : ByteArray) {i e : Int} (he : e ≠ 0) : rdL s i e = ([], i, e) := by simp [rdL, he]
theorem qdS_st (s : ByteArray) {i e : Int} (he : e ≠ 0) : rdS s i e = ([], i, e) := by simp [rdS, he]
theorem qdM_st (s : ByteArray) {i e : Int} (he : e ≠ 0) : rdM s i e = ([], i, e) := by simp [rdM, qdI_st s he, he]

/-- What getMappings keeps while it reads: the row v of its own. -/
structure GqSt (w0 w : World) (v : Value) (Q : List Mq) : Prop where
  hot : Hot w w0.heap.size (fun b => w0.heap.size ≤ b ∧ v.ownBlock ≠ some b) v Q
  bel : Below w0.heap.size w0 w

theorem GqSt.step {w0 w w' : World} {v : Value} {Q : List Mq} (h : GqSt w0 w v Q) (hb : Below w.heap.size w w') : GqSt w0 w' v Q :=
  ⟨h.hot.keeps (Keeps.of_below hb) (fun k hk e => by have := (World.ownsRow.lt h.hot.own k hk).2; omega) (fun k hk e hh => by omega), h.bel.trans (hb.mono h.bel.size)⟩

theorem GqSt.addQ {w0 w w2 w' : World} {v v' : Value} {Q : List Mq} {q : Mq} (h : GqSt w0 w v Q) (hq : InO w (fun b => w0.heap.size ≤ b ∧ v.ownBlock ≠ some b) q.2 q.1.2)
    (ho : w'.ownsRow w0.heap.size 55 2 v' (Q ++ [q]).length (cellsQ (Q ++ [q]))) (hg : w2.grownBy w' v.ownBlock) (hv : v'.ownBlock = v.ownBlock ∨ v'.ownBlock = some w2.heap.size) (hb : Below w.heap.size w w2) :
    GqSt w0 w' v' (Q ++ [q]) := by
  have hz := hb.size
  have hz0 := h.bel.size
  have h8 := fun b hb => World.ownsRow.lt h.hot.own b hb
  have hgr : w.grownBy w' v.ownBlock := pk_grownBy_trans (below_grownBy hb _) hg
  have hk1 : Keeps w w' (fun b => v.ownBlock = some b) := Keeps.of_grown hgr
  have hnew : ∀ b, b < w.heap.size → v.ownBlock ≠ some b → v'.ownBlock ≠ some b := by
    intro b hb hn e
    rcases hv with hv | hv
    · exact hn (by rw [← hv, e])
    · rw [hv] at e; injection e with e; omega
  have key : ∀ u l, InO w (fun b => w0.heap.size ≤ b ∧ v.ownBlock ≠ some b) u l → InO w' (fun b => w0.heap.size ≤ b ∧ v'.ownBlock ≠ some b) u l := by
    intro u l hu
    have h1 := hu.weak (Q := fun b => (w0.heap.size ≤ b ∧ v.ownBlock ≠ some b) ∧ b < w.heap.size) (fun b hb e => ⟨e, hb⟩)
    have h2 := h1.keeps hk1 (fun b hb e hh => hh.1.2 e)
    exact h2.weak (fun b hb e => ⟨e.1.1, hnew b e.2 e.1.2⟩)
  refine ⟨⟨ho, fun q' hq' => ?_⟩, h.bel.trans (hk1.below hz0 (fun k hk e => (h8 k e).1))⟩
  rcases List.mem_append.1 hq' with h1 | h1
  · exact key _ _ (h.hot.tos q' h1)
  · simp only [List.mem_singleton] at h1; subst h1; exact key _ _ hq

theorem nil_cap (p : Option Addr) (n c : Nat) (e : (.slice none 0 0 : Value) = .slice p n c) : n ≤ c := by injection e with _ e2 e3; omega

/-- An error ends the reading; what is returned with it is not used. -/
def PostG (L : List Mp) (i er : Int) (w : World) (e : Ending) (w' : World) : Prop :=
  ∃ v i', e = .returned (.tuple #[v, .int .i64 i', .int .i64 er]) ∧ Hid (MpO w' (fun b => w.heap.size ≤ b) v L) ∧ (∀ p n c, v = .slice p n c → n ≤ c) ∧ (er = 0 → i' = i) ∧ Below w.heap.size w w'

set_option maxRecDepth 100000 in
set_option maxHeartbeats 4000000 in
theorem rmaps_t (s : ByteArray) (i er' j : Int) (L : List Mp) (w : World) (hs : s.size ≤ maxLen) (hE : Hid (rdM s i 0 = (L, j, er'))) :
    Calls Tryz.prog 80 #[.string s, .int .i64 i] w (PostG L j er' w) := by
  have HS := Lib.hid hs
  clear hs
  obtain ⟨n, i1, e1, hn⟩ : ∃ n i1 e1, Hid (getS s i = (n, i1, e1)) := ⟨_, _, _, rfl⟩
  have hE' := hE.out
  rw [rdM] at hE'
  go_enter Tryz.func80, Tryz.ntmps80
  go_wp2_with fail
  refine (rgetInt_any s i n i1 e1 _ HS.out hn).mono ?_
  rintro e w1 ⟨rfl, rfl⟩
  by_cases h1 : e1 = 0
  · subst h1
    rw [qdI_ok hn.out] at hE'
    simp only [ne_eq, not_true_eq_false, if_false] at hE'
    have hd2 : ((0 : Int) != 0) = false := rfl
    by_cases h2 : n < 0 ∨ 256 < n
    · rw [if_pos h2] at hE'
      injection hE' with f1 f2
      injection f2 with f2 f3
      subst f1; subst f2; subst f3
      rcases h2 with h2 | h2
      · go_wp2
        go_ret3
        exact ⟨_, _, rfl, MpO.nil _ _, nil_cap, fun e => by omega, Below.refl _ _⟩
      · have h3 : ¬ n < 0 := by omega
        go_wp2
        go_ret3
        exact ⟨_, _, rfl, MpO.nil _ _, nil_cap, fun e => by omega, Below.refl _ _⟩
    · rw [if_neg h2] at hE'
      obtain ⟨m, hm⟩ : ∃ m : Nat, n = m := ⟨n.toNat, by omega⟩
      subst hm
      have hm256 : m ≤ 256 := by omega
      have HE := Lib.hid hE'
      have HST : Hid (GqSt w w (.slice none 0 0) []) := ⟨Hot.nil _ _ _, Below.refl _ _⟩
      clear hE' h2 hn hE
      go_wp2
      go_loopw [8, 10, 11] (fun ic vx kx wr => ∃ (k : Nat) (ia : Int) (vv : Value) (Q : List Mq), k ≤ m ∧ kx = .int .i64 k ∧ ic = .int .i64 ia ∧ vx = vv ∧ Q.length = k ∧ Hid (GqSt w wr vv Q) ∧ Hid (rdMF s (m - k) ia (Q.map (·.1)) = (L, j, er'))) (fun _ _ kx _ => m - (intOf kx).toNat)
      case atStart => exact ⟨0, i1, _, [], Nat.zero_le _, rfl, rfl, rfl, rfl, HST, HE⟩
      case round =>
        clear HST HE
        obtain ⟨k, ic, vv, Q, hk, rfl, rfl, hvv, hQ, hst, hEq⟩ := hrel
        replace hvv := hvv.symm
        subst hvv
        by_cases hlt : k < m
        · obtain ⟨r, hr⟩ : ∃ r, m - k = r + 1 := ⟨m - k - 1, by omega⟩
          obtain ⟨f, ia, ea, hf⟩ : ∃ f ia ea, Hid (getS s ic = (f, ia, ea)) := ⟨_, _, _, rfl⟩
          have hEq2 := hEq.out
          rw [hr, rdMF] at hEq2
          clear hEq
          go_wp2_with fail
          refine (rgetInt_any s ic f ia ea _ HS.out hf).mono ?_
          rintro e w2 ⟨rfl, rfl⟩
          by_cases hea : ea = 0
          · subst hea
            rw [qdI_ok hf.out] at hEq2
            simp only at hEq2
            obtain ⟨tl, ib, eb, ht⟩ : ∃ tl ib eb, Hid (getListS s ia = (tl, ib, eb)) := ⟨_, _, _, rfl⟩
            have htl : tl.length ≤ 4096 := by have := getListS_len s ia; rw [ht.out] at this; exact this
            have hd2 : ((0 : Int) != 0) = false := rfl
            go_wp2_with fail
            refine (rgetList_own s ia tl ib eb _ HS.out ht).mono ?_
            rintro e w3 ⟨vl, rfl, hol, hb3⟩
            have hst3 := Lib.hid (hst.out.step hb3)
            obtain ⟨nt, hnt⟩ : ∃ n, tl.length = n := ⟨_, rfl⟩
            have HTO : Hid (InO w3 (fun b => w.heap.size ≤ b ∧ vv.ownBlock ≠ some b) vl tl) := by
              refine (hol.out.rdO (by omega)).weak fun b hb e => ⟨Nat.le_trans hst.out.bel.size e, fun e8 => ?_⟩
              have := (World.ownsRow.lt hst.out.hot.own b e8).2
              omega
            obtain ⟨pl, cl, rfl, _⟩ := hol.out.inn
            rw [hnt] at HTO
            clear hol hb3 hst hf
            by_cases hb0 : eb = 0
            · subst hb0
              rw [qdL_ok ht.out] at hEq2
              simp only [ne_eq, not_true_eq_false, if_false] at hEq2
              have HEq := Lib.hid hEq2
              have HQa := Lib.hid (World.ownsRow.alloc hst3.out.hot.own (.cells #[.int .i64 f, .slice pl nt cl] 55))
              have HSZ := Lib.hid (Nat.le_trans hst3.out.bel.size (by simp : w3.heap.size ≤ (w3.alloc (.cells #[.int .i64 f, .slice pl nt cl] 55)).heap.size))
              clear hEq2 ht
              rw [hnt]
              go_wp2_with (at_builtin; refine wpList_append_map _ _ rfl rfl w.heap.size vv Q (by rfl) HQa.out _ 1 ((f, tl), .slice pl nt cl) (by rfl) (by simp [World.cell?_alloc_new]) (by simp [World.cell?_alloc_new]) rfl (by omega) HSZ.out ?_)
              intro v8 w8 ho8 hg8 hv8
              have hst8 := Lib.hid (hst3.out.addQ (v' := v8) (q := ((f, tl), .slice pl nt cl)) (w2 := w3.alloc (.cells #[.int .i64 f, .slice pl nt cl] 55)) HTO.out (by rw [show (Q ++ [((f, tl), Value.slice pl nt cl)]).length = k + 1 by simp [hQ]]; exact ho8) hg8 (by simpa using hv8) ((Below.refl w3.heap.size w3).alloc (Nat.le_refl _) _))
              clear ho8 hg8 hv8 HQa HSZ hst3 HTO
              go_wp2
              go_roundw
              case rel => exact ⟨k + 1, ib, _, Q ++ [((f, tl), .slice pl nt cl)], by omega, by go_num, rfl, rfl, by simp [hQ], hst8, by unfold Hid; rw [show m - (k + 1) = r by omega, List.map_append]; exact HEq.out⟩
              case measure => simp [intOf]; omega
            · have hd3 : (eb != 0) = true := by simp [hb0]
              rw [qdL_er ht.out hb0] at hEq2
              simp only at hEq2
              rw [if_pos hb0] at hEq2
              injection hEq2 with f1 f2
              injection f2 with f2 f3
              subst f1; subst f2; subst f3
              have hne := Lib.hid hb0
              clear hb0 ht
              go_wp2
              go_ret3
              exact ⟨_, _, rfl, MpO.nil _ _, nil_cap, fun e => absurd e hne.out, hst3.out.bel⟩
          · have hd3 : (ea != 0) = true := by simp [hea]
            have hE3 : (([] : List Mp), ic, ea) = (L, j, er') := by
              rw [← hEq2, qdI_er hf.out hea]
              simp [rdL, hea]
            injection hE3 with f1 f2
            injection f2 with f2 f3
            subst f1; subst f2; subst f3
            have hne := Lib.hid hea
            clear hea hEq2 hf
            go_wp2
            go_ret3
            exact ⟨_, _, rfl, MpO.nil _ _, nil_cap, fun e => absurd e hne.out, hst.out.bel⟩
        · obtain rfl : k = m := by omega
          have hEq2 := hEq.out
          rw [Nat.sub_self, rdMF] at hEq2
          injection hEq2 with f1 f2
          injection f2 with f2 f3
          subst f1; subst f2; subst f3
          go_wp2
          go_ret3
          exact ⟨_, _, rfl, hst.out.hot.mpO (by omega) (fun b _ e => e.1) (fun b e _ => e), fun p n c e => row_cap hst.out.hot.own e, fun _ => rfl, hst.out.bel⟩
  · have hd2 : (e1 != 0) = true := by simp [h1]
    rw [qdI_er hn.out h1] at hE'
    simp only at hE'
    rw [if_pos h1] at hE'
    injection hE' with f1 f2
    injection f2 with f2 f3
    subst f1; subst f2; subst f3
    have hne := Lib.hid h1
    clear h1
    go_wp2
    go_ret3
    exact ⟨_, _, rfl, MpO.nil _ _, nil_cap, fun e => absurd e hne.out, Below.refl _ _⟩

end Go.Proofs.YtnnhcgflmhjakaaGreatDoor

namespace Go.Proofs.YtnnhcgflmhjakaaGreatDoor
open Go Go.RowKit
set_option linter.unusedVariables false

/-- Where the k-th item begins, and the first error. -/
def posT (s : ByteArray) : Nat → Int × Int
  | 0 => (4, 0)
  | k + 1 => if k < 7 then (rdS s (posT s k).1 (posT s k).2).2 else if k < 11 then (rdM s (posT s k).1 (posT s k).2).2 else (rdL s (posT s k).1 (posT s k).2).2
def itA (s : ByteArray) (k : Nat) : List Sp := (rdS s (posT s k).1 (posT s k).2).1
def itB (s : ByteArray) (k : Nat) : List Mp := (rdM s (posT s (7 + k)).1 (posT s (7 + k)).2).1
def itL (s : ByteArray) : List Int := (rdL s (posT s 11).1 (posT s 11).2).1
def allT (s : ByteArray) : Tb := ⟨itA s 0, itA s 1, itA s 2, itA s 3, itA s 4, itA s 5, itA s 6, itB s 0, itB s 1, itB s 2, itL s, itB s 3⟩

theorem posT_ua (s : ByteArray) (k : Nat) (h : k < 7) : posT s (k + 1) = (rdS s (posT s k).1 (posT s k).2).2 := by rw [posT, if_pos h]
theorem posT_ub (s : ByteArray) (k : Nat) (h : ¬ k < 7) (h2 : k < 11) : posT s (k + 1) = (rdM s (posT s k).1 (posT s k).2).2 := by rw [posT, if_neg h, if_pos h2]
theorem posT_ul (s : ByteArray) : posT s 12 = (rdL s (posT s 11).1 (posT s 11).2).2 := by rw [posT, if_neg (by omega), if_neg (by omega)]

theorem rdT_pos (s : ByteArray) : rdT s 4 0 = (allT s, posT s 12) := by
  have p0 : posT s 0 = (4, 0) := rfl
  have p1 := posT_ua s 0 (by omega)
  have p2 := posT_ua s 1 (by omega)
  have p3 := posT_ua s 2 (by omega)
  have p4 := posT_ua s 3 (by omega)
  have p5 := posT_ua s 4 (by omega)
  have p6 := posT_ua s 5 (by omega)
  have p7 := posT_ua s 6 (by omega)
  have p8 := posT_ub s 7 (by omega) (by omega)
  have p9 := posT_ub s 8 (by omega) (by omega)
  have p10 := posT_ub s 9 (by omega) (by omega)
  have p11 := posT_ub s 10 (by omega) (by omega)
  have p12 := posT_ul s
  simp only [Nat.zero_add, Nat.reduceAdd] at p1 p2 p3 p4 p5 p6 p7 p8 p9 p10 p11 p12
  unfold allT itA itB itL rdT
  simp only [Nat.reduceAdd]
  generalize posT s 12 = q12 at p12 ⊢
  subst p12
  rw [p11, p10, p9, p8, p7, p6, p5, p4, p3, p2, p1, p0]

theorem posT_a {s : ByteArray} {k : Nat} {i : Int} (h : posT s k = (i, 0)) (hk : k < 7) : posT s (k + 1) = (rdS s i 0).2 ∧ itA s k = (rdS s i 0).1 := by
  simp [posT, itA, h, hk]
theorem posT_b {s : ByteArray} {k : Nat} {i : Int} (h : posT s (7 + k) = (i, 0)) (hk : k < 4) : posT s (7 + k + 1) = (rdM s i 0).2 ∧ itB s k = (rdM s i 0).1 := by
  have h1 : ¬ 7 + k < 7 := by omega
  have h2 : 7 + k < 11 := by omega
  constructor
  · rw [posT, if_neg h1, if_pos h2, h]
  · simp only [itB, h]
theorem posT_l {s : ByteArray} {i : Int} (h : posT s 11 = (i, 0)) : posT s 12 = (rdL s i 0).2 ∧ itL s = (rdL s i 0).1 := by
  constructor
  · rw [posT, if_neg (by omega), if_neg (by omega), h]
  · simp only [itL, h]

theorem posT_st {s : ByteArray} {k : Nat} {i e : Int} (h : posT s k = (i, e)) (he : e ≠ 0) (n : Nat) : posT s (k + n) = (i, e) := by
  induction n with
  | zero => exact h
  | succ n ih =>
    rw [← Nat.add_assoc, posT, ih]
    simp [qdS_st s he, qdM_st s he, qdL_st s he]

theorem dec_err {s : ByteArray} {k : Nat} {i e : Int} (h1 : ¬ 32768 < s.size) (h2 : ¬ s.size < 4) (h3 : s.extract 0 4 = sigB) (hk : k ≤ 12) (h : posT s k = (i, e)) (he : e ≠ 0) : decT s = (noT, e) := by
  have h12 : posT s 12 = (i, e) := by have := posT_st h he (12 - k); rwa [show k + (12 - k) = 12 by omega] at this
  have hi : (itemsT s).2 = e := by
    rw [itemsT, if_neg h1, if_neg h2, if_neg (by simp [h3]), rdT_pos, h12]
    simp [endS, qdI_st s he, he]
  rw [decT, hi, if_pos he]

theorem dec_last {s : ByteArray} {i v j e : Int} (h1 : ¬ 32768 < s.size) (h2 : ¬ s.size < 4) (h3 : s.extract 0 4 = sigB) (h : posT s 12 = (i, 0)) (hg : getS s i = (v, j, e)) (he : e ≠ 0) : decT s = (noT, e) := by
  have hi : (itemsT s).2 = e := by
    rw [itemsT, if_neg h1, if_neg h2, if_neg (by simp [h3]), rdT_pos, h]
    simp [endS, qdI_er hg he, he]
  rw [decT, hi, if_pos he]
theorem dec_sum {s : ByteArray} {i v j : Int} (h1 : ¬ 32768 < s.size) (h2 : ¬ s.size < 4) (h3 : s.extract 0 4 = sigB) (h : posT s 12 = (i, 0)) (hg : getS s i = (v, j, 0)) (hv : v ≠ sumS (s.extract 0 i.toNat)) : decT s = (noT, 6) := by
  have hi : (itemsT s).2 = 6 := by
    rw [itemsT, if_neg h1, if_neg h2, if_neg (by simp [h3]), rdT_pos, h]
    simp [endS, qdI_ok hg, hv]
  rw [decT, hi, if_pos (by decide)]
theorem dec_tail {s : ByteArray} {i v j : Int} (h1 : ¬ 32768 < s.size) (h2 : ¬ s.size < 4) (h3 : s.extract 0 4 = sigB) (h : posT s 12 = (i, 0)) (hg : getS s i = (v, j, 0)) (hv : v = sumS (s.extract 0 i.toNat)) (hj : j ≠ s.size) : decT s = (noT, 4) := by
  have hi : (itemsT s).2 = 4 := by
    rw [itemsT, if_neg h1, if_neg h2, if_neg (by simp [h3]), rdT_pos, h]
    simp [endS, qdI_ok hg, ← hv, hj]
  rw [decT, hi, if_pos (by decide)]
theorem dec_all {s : ByteArray} {i v j : Int} (h1 : ¬ 32768 < s.size) (h2 : ¬ s.size < 4) (h3 : s.extract 0 4 = sigB) (h : posT s 12 = (i, 0)) (hg : getS s i = (v, j, 0)) (hv : v = sumS (s.extract 0 i.toNat)) (hj : j = s.size) :
    decT s = if checkT (allT s) ≠ 0 then (noT, 2) else (allT s, 0) := by
  have hi : itemsT s = (allT s, 0) := by
    rw [itemsT, if_neg h1, if_neg h2, if_neg (by simp [h3]), rdT_pos, h]
    simp [endS, qdI_ok hg, ← hv, hj]
  rw [decT, hi]
  simp

theorem posT_bd {s : ByteArray} (h2 : ¬ s.size < 4) (k : Nat) : Bd s (posT s k).1 := by
  induction k with
  | zero => exact ⟨by simp [posT], by simp [posT]; omega⟩
  | succ k ih =>
    rw [posT]
    split
    · exact rdS_bd _ ih
    · split
      · exact rdM_bd _ ih
      · exact rdL_bd _ ih

/-- n cells of block g. -/
def RowF (w : World) (g n : Nat) (f : Nat → Value) : Prop := ∀ i, i < n → w.cell? ⟨g, i, none⟩ = some (f i) ∧ w.frozen? ⟨g, i, none⟩ = false

theorem RowF.keeps {w w' : World} {R : Nat → Prop} {g n : Nat} {f : Nat → Value} (h : RowF w g n f) (hg : Keeps w w' R) (hr : ¬ R g) : RowF w' g n f := by
  intro i hi
  obtain ⟨h1, h2⟩ := h i hi
  exact ⟨hg.cell h1 hr, (World.frozen?_of_block (a := ⟨g, i, none⟩) (hg.block g (World.block_lt_of_cell? w _ h1) hr)).trans h2⟩
theorem RowF.sets {w w' : World} {g n i : Nat} {f : Nat → Value} {v : Value} (h : RowF w g n f) (hs : Sets w w' g i v) : RowF w' g n (upd f i v) := by
  intro j hj
  obtain ⟨h1, h2⟩ := h j hj
  refine ⟨?_, (hs.froz j).trans h2⟩
  by_cases e : j = i
  · subst e; rw [upd_same]; exact hs.cell
  · rw [upd_other _ _ e, hs.rest j e]; exact h1

abbrev nilV : Value := .slice none 0 0
abbrev nilF : Nat → Value := fun _ => .slice none 0 0

/-- The result and the empty tables of Decode. -/
structure RN (w0 w : World) : Prop where
  res : BoxF w w0.heap.size nilF
  non : BoxF w (w0.heap.size + 1) nilF
  bel : Below w0.heap.size w0 w
  lt : w0.heap.size + 2 ≤ w.heap.size

theorem RN.keeps {w0 w w' : World} {R : Nat → Prop} (h : RN w0 w) (hk : Keeps w w' R) (hr : ∀ k, R k → w0.heap.size + 2 ≤ k) : RN w0 w' :=
  ⟨h.res.keeps hk (fun e => by have := hr _ e; omega), h.non.keeps hk (fun e => by have := hr _ e; omega), h.bel.trans (hk.below h.bel.size (fun k _ e => by have := hr _ e; omega)), Nat.le_trans h.lt hk.size⟩
theorem RN.below {w0 w w' : World} (h : RN w0 w) (hb : Below w.heap.size w w') : RN w0 w' := h.keeps (Keeps.of_below hb) (fun k e => by have := h.lt; omega)

/-- The arrays: k lists of spans and m lists of mappings have been read. -/
structure RD (w0 w : World) (ga gb k m : Nat) (s : ByteArray) (fa fb : Nat → Value) : Prop where
  rn : RN w0 w
  ra : RowF w ga 7 fa
  rb : RowF w gb 4 fb
  spa : ∀ i, i < k → SpO w (fun b => gb < b) (fa i) (itA s i)
  mpb : ∀ i, i < m → MpO w (fun b => gb < b) (fb i) (itB s i) ∧ ∀ p n c, fb i = .slice p n c → n ≤ c
  g1 : w0.heap.size + 2 ≤ ga
  g2 : ga < gb
  g3 : gb < w.heap.size

theorem RD.below {w0 w w' : World} {ga gb k m : Nat} {s : ByteArray} {fa fb : Nat → Value} (h : RD w0 w ga gb k m s fa fb) (hb : Below w.heap.size w w') : RD w0 w' ga gb k m s fa fb := by
  have hk := Keeps.of_below hb
  have h3 := h.g3
  have h2 := h.g2
  exact ⟨h.rn.below hb, h.ra.keeps hk (by omega), h.rb.keeps hk (by omega), fun i hi => (h.spa i hi).keeps hk (fun k hk e => by omega), fun i hi => ⟨(h.mpb i hi).1.keeps hk (fun k hk e => by omega), (h.mpb i hi).2⟩, h.g1, h.g2, Nat.lt_of_lt_of_le h3 hb.size⟩

theorem RD.setN {w0 w : World} {ga gb k m : Nat} {s : ByteArray} {fa fb : Nat → Value} (h : RD w0 w ga gb k m s fa fb) (g j : Nat) (v : Value) (hg : g = ga ∨ g = gb) : RN w0 (w.setCell ⟨g, j, none⟩ v) :=
  h.rn.keeps (Keeps.store w g j v) (fun k e => by have := h.g1; have := h.g2; omega)

theorem RD.setA {w0 w : World} {ga gb k m : Nat} {s : ByteArray} {fa fb : Nat → Value} (h : RD w0 w ga gb k m s fa fb) (hk7 : k < 7) {v : Value} (hv : SpO w (fun b => gb < b) v (itA s k)) :
    RD w0 (w.setCell ⟨ga, k, none⟩ v) ga gb (k + 1) m s (upd fa k v) fb := by
  have hs := Sets.store w ga k v _ (h.ra k hk7).1
  have hk := hs.keep
  have h3 := h.g3
  have h2 := h.g2
  refine ⟨h.setN ga k v (.inl rfl), h.ra.sets hs, h.rb.keeps hk (by omega), fun i hi => ?_, fun i hi => ⟨(h.mpb i hi).1.keeps hk (fun k hk e => by omega), (h.mpb i hi).2⟩, h.g1, h.g2, Nat.lt_of_lt_of_le h3 hk.size⟩
  by_cases e : i = k
  · subst e; rw [upd_same]; exact hv.keeps hk (fun k hk e => by omega)
  · rw [upd_other _ _ e]; exact (h.spa i (by omega)).keeps hk (fun k hk e => by omega)

theorem RD.setB {w0 w : World} {ga gb k m : Nat} {s : ByteArray} {fa fb : Nat → Value} (h : RD w0 w ga gb k m s fa fb) (hm4 : m < 4) {v : Value} (hv : MpO w (fun b => gb < b) v (itB s m)) (hc : ∀ p n c, v = .slice p n c → n ≤ c) :
    RD w0 (w.setCell ⟨gb, m, none⟩ v) ga gb k (m + 1) s fa (upd fb m v) := by
  have hs := Sets.store w gb m v _ (h.rb m hm4).1
  have hk := hs.keep
  have h3 := h.g3
  have h2 := h.g2
  refine ⟨h.setN gb m v (.inr rfl), h.ra.keeps hk (by omega), h.rb.sets hs, fun i hi => (h.spa i hi).keeps hk (fun k hk e => by omega), fun i hi => ?_, h.g1, h.g2, Nat.lt_of_lt_of_le h3 hk.size⟩
  by_cases e : i = m
  · subst e; rw [upd_same]; exact ⟨hv.keeps hk (fun k hk e => by omega), hc⟩
  · rw [upd_other _ _ e]; exact ⟨(h.mpb i (by omega)).1.keeps hk (fun k hk e => by omega), (h.mpb i (by omega)).2⟩

end Go.Proofs.YtnnhcgflmhjakaaGreatDoor

namespace Go.Proofs.YtnnhcgflmhjakaaGreatDoor
open Go Go.RowKit
set_option linter.unusedVariables false

/-- Tables and an error. -/
def RetTab (T : Tb) (er : Int) (w : World) (e : Ending) (w' : World) : Prop :=
  ∃ x : TV, e = .returned (.tuple #[x.agg, .int .i64 er]) ∧ TabV w' x T ∧ Below w.heap.size w w'

theorem RN.new (w : World) (t : TypeId) : RN w ((w.alloc (.cells #[.slice none 0 0, .slice none 0 0, .slice none 0 0, .slice none 0 0, .slice none 0 0, .slice none 0 0, .slice none 0 0, .slice none 0 0, .slice none 0 0, .slice none 0 0, .slice none 0 0, .slice none 0 0] t)).alloc (.cells #[.slice none 0 0, .slice none 0 0, .slice none 0 0, .slice none 0 0, .slice none 0 0, .slice none 0 0, .slice none 0 0, .slice none 0 0, .slice none 0 0, .slice none 0 0, .slice none 0 0, .slice none 0 0] t)) := by
  have h1 := new12 w t
  have h2 := new12 (w.alloc (.cells #[.slice none 0 0, .slice none 0 0, .slice none 0 0, .slice none 0 0, .slice none 0 0, .slice none 0 0, .slice none 0 0, .slice none 0 0, .slice none 0 0, .slice none 0 0, .slice none 0 0, .slice none 0 0] t)) t
  have hb : Below (w.alloc (.cells #[.slice none 0 0, .slice none 0 0, .slice none 0 0, .slice none 0 0, .slice none 0 0, .slice none 0 0, .slice none 0 0, .slice none 0 0, .slice none 0 0, .slice none 0 0, .slice none 0 0, .slice none 0 0] t)).heap.size (w.alloc (.cells #[.slice none 0 0, .slice none 0 0, .slice none 0 0, .slice none 0 0, .slice none 0 0, .slice none 0 0, .slice none 0 0, .slice none 0 0, .slice none 0 0, .slice none 0 0, .slice none 0 0, .slice none 0 0] t)) ((w.alloc (.cells #[.slice none 0 0, .slice none 0 0, .slice none 0 0, .slice none 0 0, .slice none 0 0, .slice none 0 0, .slice none 0 0, .slice none 0 0, .slice none 0 0, .slice none 0 0, .slice none 0 0, .slice none 0 0] t)).alloc (.cells #[.slice none 0 0, .slice none 0 0, .slice none 0 0, .slice none 0 0, .slice none 0 0, .slice none 0 0, .slice none 0 0, .slice none 0 0, .slice none 0 0, .slice none 0 0, .slice none 0 0, .slice none 0 0] t)) := (Below.refl _ _).alloc (Nat.le_refl _) _
  refine ⟨h1.below hb, by simpa using h2, ((Below.refl _ _).alloc (Nat.le_refl _) _).alloc (by simp) _, by simp⟩

theorem RN.cr {w0 w : World} (h : RN w0 w) : w.cell? ⟨w0.heap.size, 0, none⟩ = some (.slice none 0 0) ∧ w.frozen? ⟨w0.heap.size, 0, none⟩ = false ∧ w.cell? ⟨w0.heap.size, 1, none⟩ = some (.slice none 0 0) ∧ w.frozen? ⟨w0.heap.size, 1, none⟩ = false ∧ w.cell? ⟨w0.heap.size, 2, none⟩ = some (.slice none 0 0) ∧ w.frozen? ⟨w0.heap.size, 2, none⟩ = false ∧ w.cell? ⟨w0.heap.size, 3, none⟩ = some (.slice none 0 0) ∧ w.frozen? ⟨w0.heap.size, 3, none⟩ = false ∧ w.cell? ⟨w0.heap.size, 4, none⟩ = some (.slice none 0 0) ∧ w.frozen? ⟨w0.heap.size, 4, none⟩ = false ∧ w.cell? ⟨w0.heap.size, 5, none⟩ = some (.slice none 0 0) ∧ w.frozen? ⟨w0.heap.size, 5, none⟩ = false ∧ w.cell? ⟨w0.heap.size, 6, none⟩ = some (.slice none 0 0) ∧ w.frozen? ⟨w0.heap.size, 6, none⟩ = false ∧ w.cell? ⟨w0.heap.size, 7, none⟩ = some (.slice none 0 0) ∧ w.frozen? ⟨w0.heap.size, 7, none⟩ = false ∧ w.cell? ⟨w0.heap.size, 8, none⟩ = some (.slice none 0 0) ∧ w.frozen? ⟨w0.heap.size, 8, none⟩ = false ∧ w.cell? ⟨w0.heap.size, 9, none⟩ = some (.slice none 0 0) ∧ w.frozen? ⟨w0.heap.size, 9, none⟩ = false ∧ w.cell? ⟨w0.heap.size, 10, none⟩ = some (.slice none 0 0) ∧ w.frozen? ⟨w0.heap.size, 10, none⟩ = false ∧ w.cell? ⟨w0.heap.size, 11, none⟩ = some (.slice none 0 0) ∧ w.frozen? ⟨w0.heap.size, 11, none⟩ = false :=
  ⟨(h.res 0 (by omega)).1, (h.res 0 (by omega)).2, (h.res 1 (by omega)).1, (h.res 1 (by omega)).2, (h.res 2 (by omega)).1, (h.res 2 (by omega)).2, (h.res 3 (by omega)).1, (h.res 3 (by omega)).2, (h.res 4 (by omega)).1, (h.res 4 (by omega)).2, (h.res 5 (by omega)).1, (h.res 5 (by omega)).2, (h.res 6 (by omega)).1, (h.res 6 (by omega)).2, (h.res 7 (by omega)).1, (h.res 7 (by omega)).2, (h.res 8 (by omega)).1, (h.res 8 (by omega)).2, (h.res 9 (by omega)).1, (h.res 9 (by omega)).2, (h.res 10 (by omega)).1, (h.res 10 (by omega)).2, (h.res 11 (by omega)).1, (h.res 11 (by omega)).2⟩
theorem RN.cn {w0 w : World} (h : RN w0 w) : w.cell? ⟨w0.heap.size + 1, 0, none⟩ = some (.slice none 0 0) ∧ w.cell? ⟨w0.heap.size + 1, 1, none⟩ = some (.slice none 0 0) ∧ w.cell? ⟨w0.heap.size + 1, 2, none⟩ = some (.slice none 0 0) ∧ w.cell? ⟨w0.heap.size + 1, 3, none⟩ = some (.slice none 0 0) ∧ w.cell? ⟨w0.heap.size + 1, 4, none⟩ = some (.slice none 0 0) ∧ w.cell? ⟨w0.heap.size + 1, 5, none⟩ = some (.slice none 0 0) ∧ w.cell? ⟨w0.heap.size + 1, 6, none⟩ = some (.slice none 0 0) ∧ w.cell? ⟨w0.heap.size + 1, 7, none⟩ = some (.slice none 0 0) ∧ w.cell? ⟨w0.heap.size + 1, 8, none⟩ = some (.slice none 0 0) ∧ w.cell? ⟨w0.heap.size + 1, 9, none⟩ = some (.slice none 0 0) ∧ w.cell? ⟨w0.heap.size + 1, 10, none⟩ = some (.slice none 0 0) ∧ w.cell? ⟨w0.heap.size + 1, 11, none⟩ = some (.slice none 0 0) :=
  ⟨(h.non 0 (by omega)).1, (h.non 1 (by omega)).1, (h.non 2 (by omega)).1, (h.non 3 (by omega)).1, (h.non 4 (by omega)).1, (h.non 5 (by omega)).1, (h.non 6 (by omega)).1, (h.non 7 (by omega)).1, (h.non 8 (by omega)).1, (h.non 9 (by omega)).1, (h.non 10 (by omega)).1, (h.non 11 (by omega)).1⟩

theorem RowF.new7 (w : World) (t : TypeId) : RowF (w.alloc (.cells #[.slice none 0 0, .slice none 0 0, .slice none 0 0, .slice none 0 0, .slice none 0 0, .slice none 0 0, .slice none 0 0] t)) w.heap.size 7 nilF := by
  intro j hj
  have : j = 0 ∨ j = 1 ∨ j = 2 ∨ j = 3 ∨ j = 4 ∨ j = 5 ∨ j = 6 := by omega
  rcases this with rfl | rfl | rfl | rfl | rfl | rfl | rfl <;> exact ⟨by simp [World.cell?_alloc_new], by simp⟩
theorem RowF.new4 (w : World) (t : TypeId) : RowF (w.alloc (.cells #[.slice none 0 0, .slice none 0 0, .slice none 0 0, .slice none 0 0] t)) w.heap.size 4 nilF := by
  intro j hj
  have : j = 0 ∨ j = 1 ∨ j = 2 ∨ j = 3 := by omega
  rcases this with rfl | rfl | rfl | rfl <;> exact ⟨by simp [World.cell?_alloc_new], by simp⟩

theorem RD.new {w0 w : World} (h : RN w0 w) (s : ByteArray) (t u : TypeId) : RD w0 ((w.alloc (.cells #[.slice none 0 0, .slice none 0 0, .slice none 0 0, .slice none 0 0, .slice none 0 0, .slice none 0 0, .slice none 0 0] t)).alloc (.cells #[.slice none 0 0, .slice none 0 0, .slice none 0 0, .slice none 0 0] u)) w.heap.size (w.heap.size + 1) 0 0 s nilF nilF := by
  have hb1 : Below w.heap.size w (w.alloc (.cells #[.slice none 0 0, .slice none 0 0, .slice none 0 0, .slice none 0 0, .slice none 0 0, .slice none 0 0, .slice none 0 0] t)) := (Below.refl _ _).alloc (Nat.le_refl _) _
  have hb2 : Below (w.alloc (.cells #[.slice none 0 0, .slice none 0 0, .slice none 0 0, .slice none 0 0, .slice none 0 0, .slice none 0 0, .slice none 0 0] t)).heap.size (w.alloc (.cells #[.slice none 0 0, .slice none 0 0, .slice none 0 0, .slice none 0 0, .slice none 0 0, .slice none 0 0, .slice none 0 0] t)) ((w.alloc (.cells #[.slice none 0 0, .slice none 0 0, .slice none 0 0, .slice none 0 0, .slice none 0 0, .slice none 0 0, .slice none 0 0] t)).alloc (.cells #[.slice none 0 0, .slice none 0 0, .slice none 0 0, .slice none 0 0] u)) := (Below.refl _ _).alloc (Nat.le_refl _) _
  refine ⟨(h.below hb1).below hb2, (RowF.new7 w t).keeps (Keeps.of_below hb2) (by simp), ?_, fun i hi => absurd hi (by omega), fun i hi => absurd hi (by omega), h.lt, by omega, by simp⟩
  have := RowF.new4 (w.alloc (.cells #[.slice none 0 0, .slice none 0 0, .slice none 0 0, .slice none 0 0, .slice none 0 0, .slice none 0 0, .slice none 0 0] t)) u
  simpa using this

/-- The tables that have been read. -/
theorem RD.tabK {w0 w : World} {ga gb : Nat} {s : ByteArray} {fa fb : Nat → Value} (h : RD w0 w ga gb 7 4 s fa fb) {vx : Value} (hx : InO w (fun b => gb < b) vx (itL s)) {w' : World} (hk : Keeps w w' (fun k => k ≤ gb)) :
    TabV w' ⟨fa 0, fa 1, fa 2, fa 3, fa 4, fa 5, fa 6, fb 0, fb 1, fb 2, vx, fb 3⟩ (allT s) := by
  have ka : ∀ i, i < 7 → SpV w' (fa i) (itA s i) := fun i hi => ((h.spa i hi).keeps hk (fun k _ e hh => by omega)).1
  have kb : ∀ i, i < 4 → MpV w' (fb i) (itB s i) := fun i hi => ((h.mpb i hi).1.keeps hk (fun k _ e hh => by omega)).mpv
  exact ⟨ka 0 (by omega), ka 1 (by omega), ka 2 (by omega), ka 3 (by omega), ka 4 (by omega), ka 5 (by omega), ka 6 (by omega), kb 0 (by omega), kb 1 (by omega), kb 2 (by omega), (hx.keeps hk (fun k _ e hh => by omega)).1, kb 3 (by omega)⟩

set_option maxRecDepth 100000 in
set_option maxHeartbeats 16000000 in
theorem rdecode_t (s : ByteArray) (T : Tb) (er : Int) (w : World) (hs : s.size ≤ maxLen) (hE : Hid (decT s = (T, er))) :
    Calls Tryz.prog 41 #[.string s] w (RetTab T er w) := by
  have hE' := hE.out
  unfold maxLen at hs
  have hd0 : ((0 : Int) != 0) = false := rfl
  go_enter Tryz.func41, Tryz.ntmps41
  go_upto_region 2 with (fail)
  have HN := Lib.hid (RN.new w 29)
  generalize ((w.alloc (.cells #[.slice none 0 0, .slice none 0 0, .slice none 0 0, .slice none 0 0, .slice none 0 0, .slice none 0 0, .slice none 0 0, .slice none 0 0, .slice none 0 0, .slice none 0 0, .slice none 0 0, .slice none 0 0] 29)).alloc (.cells #[.slice none 0 0, .slice none 0 0, .slice none 0 0, .slice none 0 0, .slice none 0 0, .slice none 0 0, .slice none 0 0, .slice none 0 0, .slice none 0 0, .slice none 0 0, .slice none 0 0, .slice none 0 0] 29)) = W0 at HN ⊢
  by_cases h1 : 32768 < s.size
  · rw [decT, itemsT, if_pos h1] at hE'
    simp only [ne_eq, Int.reduceEq, not_false_eq_true, if_true] at hE'
    injection hE' with f1 f2
    subst f1; subst f2
    have h1' : (32768 : Int) < (s.size : Int) := by omega
    obtain ⟨s0, t0, s1, t1, s2, t2, s3, t3, s4, t4, s5, t5, s6, t6, s7, t7, s8, t8, s9, t9, s10, t10, s11, t11⟩ := HN.out.cr
    obtain ⟨r0, r1, r2, r3, r4, r5, r6, r7, r8, r9, r10, r11⟩ := HN.out.cn
    go_wp2
    obtain ⟨hbF, hkF⟩ := store12 W0 w.heap.size (.slice none 0 0) (.slice none 0 0) (.slice none 0 0) (.slice none 0 0) (.slice none 0 0) (.slice none 0 0) (.slice none 0 0) (.slice none 0 0) (.slice none 0 0) (.slice none 0 0) (.slice none 0 0) (.slice none 0 0) HN.out.res
    generalize (World.setCell (World.setCell (World.setCell (World.setCell (World.setCell (World.setCell (World.setCell (World.setCell (World.setCell (World.setCell (World.setCell (World.setCell W0 ⟨w.heap.size, 0, none⟩ (.slice none 0 0)) ⟨w.heap.size, 1, none⟩ (.slice none 0 0)) ⟨w.heap.size, 2, none⟩ (.slice none 0 0)) ⟨w.heap.size, 3, none⟩ (.slice none 0 0)) ⟨w.heap.size, 4, none⟩ (.slice none 0 0)) ⟨w.heap.size, 5, none⟩ (.slice none 0 0)) ⟨w.heap.size, 6, none⟩ (.slice none 0 0)) ⟨w.heap.size, 7, none⟩ (.slice none 0 0)) ⟨w.heap.size, 8, none⟩ (.slice none 0 0)) ⟨w.heap.size, 9, none⟩ (.slice none 0 0)) ⟨w.heap.size, 10, none⟩ (.slice none 0 0)) ⟨w.heap.size, 11, none⟩ (.slice none 0 0)) = WF at hbF hkF ⊢
    obtain ⟨⟨Q0, Q1, Q2, Q3, Q4, Q5⟩, ⟨Q6, Q7, Q8, Q9, Q10, Q11⟩⟩ := hbF.load
    simp only at Q0 Q1 Q2 Q3 Q4 Q5 Q6 Q7 Q8 Q9 Q10 Q11
    refine bodyPost_ret (v := .tuple #[.agg #[.slice none 0 0, .slice none 0 0, .slice none 0 0, .slice none 0 0, .slice none 0 0, .slice none 0 0, .slice none 0 0, .slice none 0 0, .slice none 0 0, .slice none 0 0, .slice none 0 0, .slice none 0 0], .int .i64 7]) (by simp [results, Tryz.results41, go_sem, Q0, Q1, Q2, Q3, Q4, Q5, Q6, Q7, Q8, Q9, Q10, Q11]) rfl ?_
    exact ⟨⟨.slice none 0 0, .slice none 0 0, .slice none 0 0, .slice none 0 0, .slice none 0 0, .slice none 0 0, .slice none 0 0, .slice none 0 0, .slice none 0 0, .slice none 0 0, .slice none 0 0, .slice none 0 0⟩, rfl, noV _, HN.out.bel.trans (hkF.below HN.out.bel.size (fun k _ e => by omega))⟩
  · by_cases h2 : s.size < 4
    · rw [decT, itemsT, if_neg h1, if_pos h2] at hE'
      simp only [ne_eq, Int.reduceEq, not_false_eq_true, if_true] at hE'
      injection hE' with f1 f2
      subst f1; subst f2
      obtain ⟨s0, t0, s1, t1, s2, t2, s3, t3, s4, t4, s5, t5, s6, t6, s7, t7, s8, t8, s9, t9, s10, t10, s11, t11⟩ := HN.out.cr
      obtain ⟨r0, r1, r2, r3, r4, r5, r6, r7, r8, r9, r10, r11⟩ := HN.out.cn
      go_wp2
      obtain ⟨hbF, hkF⟩ := store12 W0 w.heap.size (.slice none 0 0) (.slice none 0 0) (.slice none 0 0) (.slice none 0 0) (.slice none 0 0) (.slice none 0 0) (.slice none 0 0) (.slice none 0 0) (.slice none 0 0) (.slice none 0 0) (.slice none 0 0) (.slice none 0 0) HN.out.res
      generalize (World.setCell (World.setCell (World.setCell (World.setCell (World.setCell (World.setCell (World.setCell (World.setCell (World.setCell (World.setCell (World.setCell (World.setCell W0 ⟨w.heap.size, 0, none⟩ (.slice none 0 0)) ⟨w.heap.size, 1, none⟩ (.slice none 0 0)) ⟨w.heap.size, 2, none⟩ (.slice none 0 0)) ⟨w.heap.size, 3, none⟩ (.slice none 0 0)) ⟨w.heap.size, 4, none⟩ (.slice none 0 0)) ⟨w.heap.size, 5, none⟩ (.slice none 0 0)) ⟨w.heap.size, 6, none⟩ (.slice none 0 0)) ⟨w.heap.size, 7, none⟩ (.slice none 0 0)) ⟨w.heap.size, 8, none⟩ (.slice none 0 0)) ⟨w.heap.size, 9, none⟩ (.slice none 0 0)) ⟨w.heap.size, 10, none⟩ (.slice none 0 0)) ⟨w.heap.size, 11, none⟩ (.slice none 0 0)) = WF at hbF hkF ⊢
      obtain ⟨⟨Q0, Q1, Q2, Q3, Q4, Q5⟩, ⟨Q6, Q7, Q8, Q9, Q10, Q11⟩⟩ := hbF.load
      simp only at Q0 Q1 Q2 Q3 Q4 Q5 Q6 Q7 Q8 Q9 Q10 Q11
      refine bodyPost_ret (v := .tuple #[.agg #[.slice none 0 0, .slice none 0 0, .slice none 0 0, .slice none 0 0, .slice none 0 0, .slice none 0 0, .slice none 0 0, .slice none 0 0, .slice none 0 0, .slice none 0 0, .slice none 0 0, .slice none 0 0], .int .i64 5]) (by simp [results, Tryz.results41, go_sem, Q0, Q1, Q2, Q3, Q4, Q5, Q6, Q7, Q8, Q9, Q10, Q11]) rfl ?_
      exact ⟨⟨.slice none 0 0, .slice none 0 0, .slice none 0 0, .slice none 0 0, .slice none 0 0, .slice none 0 0, .slice none 0 0, .slice none 0 0, .slice none 0 0, .slice none 0 0, .slice none 0 0, .slice none 0 0⟩, rfl, noV _, HN.out.bel.trans (hkF.below HN.out.bel.size (fun k _ e => by omega))⟩
    · by_cases h3 : s.extract 0 4 = sigB
      case neg =>
        rw [decT, itemsT, if_neg h1, if_neg h2, if_pos h3] at hE'
        simp only [ne_eq, Int.reduceEq, not_false_eq_true, if_true] at hE'
        injection hE' with f1 f2
        subst f1; subst f2
        have hsg : ((s.extract 0 4).toList == [78, 68, 84, 49]) = false := by rw [sig_eq]; exact decide_eq_false h3
        have hsz : 4 ≤ s.size := by omega
        obtain ⟨s0, t0, s1, t1, s2, t2, s3, t3, s4, t4, s5, t5, s6, t6, s7, t7, s8, t8, s9, t9, s10, t10, s11, t11⟩ := HN.out.cr
        obtain ⟨r0, r1, r2, r3, r4, r5, r6, r7, r8, r9, r10, r11⟩ := HN.out.cn
        go_wp2
        obtain ⟨hbF, hkF⟩ := store12 W0 w.heap.size (.slice none 0 0) (.slice none 0 0) (.slice none 0 0) (.slice none 0 0) (.slice none 0 0) (.slice none 0 0) (.slice none 0 0) (.slice none 0 0) (.slice none 0 0) (.slice none 0 0) (.slice none 0 0) (.slice none 0 0) HN.out.res
        generalize (World.setCell (World.setCell (World.setCell (World.setCell (World.setCell (World.setCell (World.setCell (World.setCell (World.setCell (World.setCell (World.setCell (World.setCell W0 ⟨w.heap.size, 0, none⟩ (.slice none 0 0)) ⟨w.heap.size, 1, none⟩ (.slice none 0 0)) ⟨w.heap.size, 2, none⟩ (.slice none 0 0)) ⟨w.heap.size, 3, none⟩ (.slice none 0 0)) ⟨w.heap.size, 4, none⟩ (.slice none 0 0)) ⟨w.heap.size, 5, none⟩ (.slice none 0 0)) ⟨w.heap.size, 6, none⟩ (.slice none 0 0)) ⟨w.heap.size, 7, none⟩ (.slice none 0 0)) ⟨w.heap.size, 8, none⟩ (.slice none 0 0)) ⟨w.heap.size, 9, none⟩ (.slice none 0 0)) ⟨w.heap.size, 10, none⟩ (.slice none 0 0)) ⟨w.heap.size, 11, none⟩ (.slice none 0 0)) = WF at hbF hkF ⊢
        obtain ⟨⟨Q0, Q1, Q2, Q3, Q4, Q5⟩, ⟨Q6, Q7, Q8, Q9, Q10, Q11⟩⟩ := hbF.load
        simp only at Q0 Q1 Q2 Q3 Q4 Q5 Q6 Q7 Q8 Q9 Q10 Q11
        refine bodyPost_ret (v := .tuple #[.agg #[.slice none 0 0, .slice none 0 0, .slice none 0 0, .slice none 0 0, .slice none 0 0, .slice none 0 0, .slice none 0 0, .slice none 0 0, .slice none 0 0, .slice none 0 0, .slice none 0 0, .slice none 0 0], .int .i64 4]) (by simp [results, Tryz.results41, go_sem, Q0, Q1, Q2, Q3, Q4, Q5, Q6, Q7, Q8, Q9, Q10, Q11]) rfl ?_
        exact ⟨⟨.slice none 0 0, .slice none 0 0, .slice none 0 0, .slice none 0 0, .slice none 0 0, .slice none 0 0, .slice none 0 0, .slice none 0 0, .slice none 0 0, .slice none 0 0, .slice none 0 0, .slice none 0 0⟩, rfl, noV _, HN.out.bel.trans (hkF.below HN.out.bel.size (fun k _ e => by omega))⟩
      case pos =>
        have hsg : ((s.extract 0 4).toList == [78, 68, 84, 49]) = true := by rw [sig_eq]; exact decide_eq_true h3
        have hsz : 4 ≤ s.size := by omega
        have hsb : s.size ≤ 32768 := by omega
        have HS : Hid (s.size ≤ maxLen) := hs
        have H1 := Lib.hid h1
        have H2 := Lib.hid h2
        have H3 := Lib.hid h3
        have HEE := hE
        clear h1 h2 h3 hE hE' hs
        have HD := Lib.hid (RD.new HN.out s 94 95)
        go_wp2
        clear hsg
        generalize ((W0.alloc (.cells #[.slice none 0 0, .slice none 0 0, .slice none 0 0, .slice none 0 0, .slice none 0 0, .slice none 0 0, .slice none 0 0] 94)).alloc (.cells #[.slice none 0 0, .slice none 0 0, .slice none 0 0, .slice none 0 0] 95)) = W1 at HD ⊢
        generalize W0.heap.size = ga at HD ⊢
        generalize hgb : ga + 1 = gb at HD ⊢
        have HP0 : Hid (posT s 0 = (4, 0)) := rfl
        go_loopw [5, 31] (fun ia ki wr => ∃ (k : Nat) (i : Int) (fa : Nat → Value), k ≤ 7 ∧ ki = .int .i64 k ∧ ia = .int .i64 i ∧ Hid (posT s k = (i, 0)) ∧ Hid (RD w wr ga gb k 0 s fa nilF)) (fun _ ki _ => 7 - (intOf ki).toNat)
        case atStart => exact ⟨0, 4, nilF, by omega, rfl, rfl, HP0, HD⟩
        case round =>
          clear HD HN HP0
          obtain ⟨k, i, fa, hk, rfl, rfl, hP, HD⟩ := hrel
          by_cases hlt : k < 7
          · obtain ⟨L, j, e, hg⟩ : ∃ L j e, Hid (getSpansS s i = (L, j, e)) := ⟨_, _, _, rfl⟩
            have hll : L.length ≤ 256 := by have := getSpansS_len s i; rw [hg.out] at this; exact this
            go_wp2_with fail
            refine (rgetSpans_own s i L j e _ HS.out hg).mono ?_
            rintro e0 w2 ⟨v, rfl, hov, hb2⟩
            have HD2 := Lib.hid (HD.out.below hb2)
            have HV : Hid (SpO w2 (fun b => gb < b) v L) := (hov.out.spO (by omega)).weak (fun b _ e => by have := HD.out.g3; omega)
            obtain ⟨c0, d0⟩ := HD2.out.ra k hlt
            obtain ⟨pv, nv, qv, hsl⟩ : Slc v := HV.out.1.slc
            subst hsl
            clear hov hb2 HD
            have HNE := Lib.hid (HD2.out.setN ga k (.slice pv nv qv) (.inl rfl))
            by_cases he : e = 0
            · subst he
              have hPA := posT_a hP.out hlt
              rw [qdS_ok hg.out] at hPA
              have HP2 : Hid (posT s (k + 1) = (j, 0)) := hPA.1
              have HD3 := Lib.hid (HD2.out.setA hlt (v := .slice pv nv qv) (by rw [hPA.2]; exact HV.out))
              clear hPA HD2 HV hg
              go_upto_region 16 with (fail)
              clear c0 d0 HNE
              generalize (World.setCell w2 ⟨ga, k, none⟩ (.slice pv nv qv)) = W3 at HD3 ⊢
              go_wp2
              go_roundw
              case rel => exact ⟨k + 1, j, _, by omega, by go_num, rfl, HP2, HD3⟩
              case measure => simp [intOf]; omega
            · have hPA := posT_a hP.out hlt
              rw [qdS_er hg.out he] at hPA
              have hE' := HEE.out
              rw [dec_err H1.out H2.out H3.out (show k + 1 ≤ 12 by omega) hPA.1 he] at hE'
              injection hE' with f1 f2
              subst f1; subst f2
              have hne : (e != 0) = true := by simp [he]
              clear hPA HD2 HV hg he HEE
              go_upto_region 16 with (fail)
              clear c0 d0
              generalize (World.setCell w2 ⟨ga, k, none⟩ (.slice pv nv qv)) = W3 at HNE ⊢
              obtain ⟨s0, t0, s1, t1, s2, t2, s3, t3, s4, t4, s5, t5, s6, t6, s7, t7, s8, t8, s9, t9, s10, t10, s11, t11⟩ := HNE.out.cr
              obtain ⟨r0, r1, r2, r3, r4, r5, r6, r7, r8, r9, r10, r11⟩ := HNE.out.cn
              go_wp2
              obtain ⟨hbF, hkF⟩ := store12 W3 w.heap.size (.slice none 0 0) (.slice none 0 0) (.slice none 0 0) (.slice none 0 0) (.slice none 0 0) (.slice none 0 0) (.slice none 0 0) (.slice none 0 0) (.slice none 0 0) (.slice none 0 0) (.slice none 0 0) (.slice none 0 0) HNE.out.res
              generalize (World.setCell (World.setCell (World.setCell (World.setCell (World.setCell (World.setCell (World.setCell (World.setCell (World.setCell (World.setCell (World.setCell (World.setCell W3 ⟨w.heap.size, 0, none⟩ (.slice none 0 0)) ⟨w.heap.size, 1, none⟩ (.slice none 0 0)) ⟨w.heap.size, 2, none⟩ (.slice none 0 0)) ⟨w.heap.size, 3, none⟩ (.slice none 0 0)) ⟨w.heap.size, 4, none⟩ (.slice none 0 0)) ⟨w.heap.size, 5, none⟩ (.slice none 0 0)) ⟨w.heap.size, 6, none⟩ (.slice none 0 0)) ⟨w.heap.size, 7, none⟩ (.slice none 0 0)) ⟨w.heap.size, 8, none⟩ (.slice none 0 0)) ⟨w.heap.size, 9, none⟩ (.slice none 0 0)) ⟨w.heap.size, 10, none⟩ (.slice none 0 0)) ⟨w.heap.size, 11, none⟩ (.slice none 0 0)) = WF at hbF hkF ⊢
              obtain ⟨⟨Q0, Q1, Q2, Q3, Q4, Q5⟩, ⟨Q6, Q7, Q8, Q9, Q10, Q11⟩⟩ := hbF.load
              simp only at Q0 Q1 Q2 Q3 Q4 Q5 Q6 Q7 Q8 Q9 Q10 Q11
              refine bodyPost_ret (v := .tuple #[.agg #[.slice none 0 0, .slice none 0 0, .slice none 0 0, .slice none 0 0, .slice none 0 0, .slice none 0 0, .slice none 0 0, .slice none 0 0, .slice none 0 0, .slice none 0 0, .slice none 0 0, .slice none 0 0], .int .i64 e]) (by simp [results, Tryz.results41, go_sem, Q0, Q1, Q2, Q3, Q4, Q5, Q6, Q7, Q8, Q9, Q10, Q11]) rfl ?_
              exact ⟨⟨.slice none 0 0, .slice none 0 0, .slice none 0 0, .slice none 0 0, .slice none 0 0, .slice none 0 0, .slice none 0 0, .slice none 0 0, .slice none 0 0, .slice none 0 0, .slice none 0 0, .slice none 0 0⟩, rfl, noV _, HNE.out.bel.trans (hkF.below HNE.out.bel.size (fun k _ e => by omega))⟩
          · obtain rfl : k = 7 := by omega
            go_upto_region 20 with (fail)
            clear hlt hk
            generalize wr = W4 at HD ⊢
            go_loopw [5, 48] (fun ia ki wq => ∃ (m : Nat) (i : Int) (fb : Nat → Value), m ≤ 4 ∧ ki = .int .i64 m ∧ ia = .int .i64 i ∧ Hid (posT s (7 + m) = (i, 0)) ∧ Hid (RD w wq ga gb 7 m s fa fb)) (fun _ ki _ => 4 - (intOf ki).toNat)
            case atStart => exact ⟨0, i, nilF, by omega, rfl, rfl, hP, HD⟩
            case round =>
              clear HD hP
              obtain ⟨m, i, fb, hm, rfl, rfl, hP, HD⟩ := hrel
              by_cases hlt : m < 4
              · obtain ⟨L, j, e, hg⟩ : ∃ L j e, Hid (rdM s i 0 = (L, j, e)) := ⟨_, _, _, rfl⟩
                go_wp2_with fail
                refine (rmaps_t s i e j L _ HS.out hg).mono ?_
                rintro e0 w2 ⟨v, j', rfl, hov, hcap, hj', hb2⟩
                have HD2 := Lib.hid (HD.out.below hb2)
                have HV : Hid (MpO w2 (fun b => gb < b) v L) := hov.out.weak (fun b _ e => by have := HD.out.g3; omega)
                have HC := Lib.hid hcap
                obtain ⟨c0, d0⟩ := HD2.out.rb m hlt
                obtain ⟨pv, nv, qv, hsl⟩ : Slc v := HV.out.mpv.slc
                subst hsl
                clear hov hb2 HD hcap
                have HNE := Lib.hid (HD2.out.setN gb m (.slice pv nv qv) (.inr rfl))
                have hPA := posT_b hP.out hlt
                rw [hg.out] at hPA
                by_cases he : e = 0
                · subst he
                  obtain rfl := hj' rfl
                  have HP2 : Hid (posT s (7 + (m + 1)) = (j', 0)) := hPA.1
                  have HD3 := Lib.hid (HD2.out.setB hlt (v := .slice pv nv qv) (by rw [hPA.2]; exact HV.out) HC.out)
                  clear hPA HD2 HV HC hg hj'
                  go_upto_region 23 with (fail)
                  clear c0 d0 HNE
                  generalize (World.setCell w2 ⟨gb, m, none⟩ (.slice pv nv qv)) = W3 at HD3 ⊢
                  go_wp2
                  go_roundw
                  case rel =>
                    repeat apply Exists.intro
                    refine ⟨⟨m + 1, j', _, by omega, by go_num, rfl, HP2, HD3⟩, rfl⟩
                  case measure => simp [intOf]; omega
                · have hE' := HEE.out
                  rw [dec_err H1.out H2.out H3.out (show 7 + m + 1 ≤ 12 by omega) hPA.1 he] at hE'
                  injection hE' with f1 f2
                  subst f1; subst f2
                  have hne : (e != 0) = true := by simp [he]
                  clear hPA HD2 HV HC hg he HEE hj'
                  go_upto_region 23 with (fail)
                  clear c0 d0
                  generalize (World.setCell w2 ⟨gb, m, none⟩ (.slice pv nv qv)) = W3 at HNE ⊢
                  obtain ⟨s0, t0, s1, t1, s2, t2, s3, t3, s4, t4, s5, t5, s6, t6, s7, t7, s8, t8, s9, t9, s10, t10, s11, t11⟩ := HNE.out.cr
                  obtain ⟨r0, r1, r2, r3, r4, r5, r6, r7, r8, r9, r10, r11⟩ := HNE.out.cn
                  go_wp2
                  obtain ⟨hbF, hkF⟩ := store12 W3 w.heap.size (.slice none 0 0) (.slice none 0 0) (.slice none 0 0) (.slice none 0 0) (.slice none 0 0) (.slice none 0 0) (.slice none 0 0) (.slice none 0 0) (.slice none 0 0) (.slice none 0 0) (.slice none 0 0) (.slice none 0 0) HNE.out.res
                  generalize (World.setCell (World.setCell (World.setCell (World.setCell (World.setCell (World.setCell (World.setCell (World.setCell (World.setCell (World.setCell (World.setCell (World.setCell W3 ⟨w.heap.size, 0, none⟩ (.slice none 0 0)) ⟨w.heap.size, 1, none⟩ (.slice none 0 0)) ⟨w.heap.size, 2, none⟩ (.slice none 0 0)) ⟨w.heap.size, 3, none⟩ (.slice none 0 0)) ⟨w.heap.size, 4, none⟩ (.slice none 0 0)) ⟨w.heap.size, 5, none⟩ (.slice none 0 0)) ⟨w.heap.size, 6, none⟩ (.slice none 0 0)) ⟨w.heap.size, 7, none⟩ (.slice none 0 0)) ⟨w.heap.size, 8, none⟩ (.slice none 0 0)) ⟨w.heap.size, 9, none⟩ (.slice none 0 0)) ⟨w.heap.size, 10, none⟩ (.slice none 0 0)) ⟨w.heap.size, 11, none⟩ (.slice none 0 0)) = WF at hbF hkF ⊢
                  obtain ⟨⟨Q0, Q1, Q2, Q3, Q4, Q5⟩, ⟨Q6, Q7, Q8, Q9, Q10, Q11⟩⟩ := hbF.load
                  simp only at Q0 Q1 Q2 Q3 Q4 Q5 Q6 Q7 Q8 Q9 Q10 Q11
                  refine bodyPost_ret (v := .tuple #[.agg #[.slice none 0 0, .slice none 0 0, .slice none 0 0, .slice none 0 0, .slice none 0 0, .slice none 0 0, .slice none 0 0, .slice none 0 0, .slice none 0 0, .slice none 0 0, .slice none 0 0, .slice none 0 0], .int .i64 e]) (by simp [results, Tryz.results41, go_sem, Q0, Q1, Q2, Q3, Q4, Q5, Q6, Q7, Q8, Q9, Q10, Q11]) rfl ?_
                  exact ⟨⟨.slice none 0 0, .slice none 0 0, .slice none 0 0, .slice none 0 0, .slice none 0 0, .slice none 0 0, .slice none 0 0, .slice none 0 0, .slice none 0 0, .slice none 0 0, .slice none 0 0, .slice none 0 0⟩, rfl, noV _, HNE.out.bel.trans (hkF.below HNE.out.bel.size (fun k _ e => by omega))⟩
              · obtain rfl : m = 4 := by omega
                clear hlt hm
                obtain ⟨L, j, e, hg⟩ : ∃ L j e, Hid (getListS s i = (L, j, e)) := ⟨_, _, _, rfl⟩
                have hll : L.length ≤ 4096 := by have := getListS_len s i; rw [hg.out] at this; exact this
                go_wp2_with fail
                refine (rgetList_own s i L j e _ HS.out hg).mono ?_
                rintro e0 w2 ⟨vx, rfl, hox, hb2⟩
                have HX : Hid (InO w2 (fun b => gb < b) vx L) := (hox.out.rdO (by omega)).weak (fun b _ e => by have := HD.out.g3; omega)
                replace HD := Lib.hid (HD.out.below hb2)
                clear hox hb2
                by_cases he : e = 0
                case neg =>
                  have hPL := posT_l hP.out
                  rw [qdL_er hg.out he] at hPL
                  have hE' := HEE.out
                  rw [dec_err H1.out H2.out H3.out (Nat.le_refl 12) hPL.1 he] at hE'
                  injection hE' with f1 f2
                  subst f1; subst f2
                  have hne : (e != 0) = true := by simp [he]
                  clear hPL hg he HEE
                  obtain ⟨s0, t0, s1, t1, s2, t2, s3, t3, s4, t4, s5, t5, s6, t6, s7, t7, s8, t8, s9, t9, s10, t10, s11, t11⟩ := HD.out.rn.cr
                  obtain ⟨r0, r1, r2, r3, r4, r5, r6, r7, r8, r9, r10, r11⟩ := HD.out.rn.cn
                  go_wp2
                  obtain ⟨hbF, hkF⟩ := store12 w2 w.heap.size (.slice none 0 0) (.slice none 0 0) (.slice none 0 0) (.slice none 0 0) (.slice none 0 0) (.slice none 0 0) (.slice none 0 0) (.slice none 0 0) (.slice none 0 0) (.slice none 0 0) (.slice none 0 0) (.slice none 0 0) HD.out.rn.res
                  generalize (World.setCell (World.setCell (World.setCell (World.setCell (World.setCell (World.setCell (World.setCell (World.setCell (World.setCell (World.setCell (World.setCell (World.setCell w2 ⟨w.heap.size, 0, none⟩ (.slice none 0 0)) ⟨w.heap.size, 1, none⟩ (.slice none 0 0)) ⟨w.heap.size, 2, none⟩ (.slice none 0 0)) ⟨w.heap.size, 3, none⟩ (.slice none 0 0)) ⟨w.heap.size, 4, none⟩ (.slice none 0 0)) ⟨w.heap.size, 5, none⟩ (.slice none 0 0)) ⟨w.heap.size, 6, none⟩ (.slice none 0 0)) ⟨w.heap.size, 7, none⟩ (.slice none 0 0)) ⟨w.heap.size, 8, none⟩ (.slice none 0 0)) ⟨w.heap.size, 9, none⟩ (.slice none 0 0)) ⟨w.heap.size, 10, none⟩ (.slice none 0 0)) ⟨w.heap.size, 11, none⟩ (.slice none 0 0)) = WF at hbF hkF ⊢
                  obtain ⟨⟨Q0, Q1, Q2, Q3, Q4, Q5⟩, ⟨Q6, Q7, Q8, Q9, Q10, Q11⟩⟩ := hbF.load
                  simp only at Q0 Q1 Q2 Q3 Q4 Q5 Q6 Q7 Q8 Q9 Q10 Q11
                  refine bodyPost_ret (v := .tuple #[.agg #[.slice none 0 0, .slice none 0 0, .slice none 0 0, .slice none 0 0, .slice none 0 0, .slice none 0 0, .slice none 0 0, .slice none 0 0, .slice none 0 0, .slice none 0 0, .slice none 0 0, .slice none 0 0], .int .i64 e]) (by simp [results, Tryz.results41, go_sem, Q0, Q1, Q2, Q3, Q4, Q5, Q6, Q7, Q8, Q9, Q10, Q11]) rfl ?_
                  exact ⟨⟨.slice none 0 0, .slice none 0 0, .slice none 0 0, .slice none 0 0, .slice none 0 0, .slice none 0 0, .slice none 0 0, .slice none 0 0, .slice none 0 0, .slice none 0 0, .slice none 0 0, .slice none 0 0⟩, rfl, noV _, HD.out.rn.bel.trans (hkF.below HD.out.rn.bel.size (fun k _ e => by omega))⟩
                case pos =>
                  subst he
                  have hPL := posT_l hP.out
                  rw [qdL_ok hg.out] at hPL
                  have HP := Lib.hid hPL.1
                  have HL := Lib.hid hPL.2
                  have hbd := posT_bd H2.out 12
                  rw [HP.out] at hbd
                  obtain ⟨pn, hpn⟩ : ∃ p : Nat, j = p := ⟨j.toNat, by have := hbd.1; simp only at this; omega⟩
                  subst hpn
                  have hps : pn ≤ s.size := by have := hbd.2; simp only at this; omega
                  clear hPL hg hP
                  obtain ⟨v, j2, e2, hg2⟩ : ∃ v j e, Hid (getS s pn = (v, j, e)) := ⟨_, _, _, rfl⟩
                  go_wp2_with fail
                  refine (rgetInt_any s pn v j2 e2 _ HS.out hg2).mono ?_
                  rintro e0 w3 ⟨rfl, rfl⟩
                  by_cases he : e2 = 0
                  case neg =>
                    have hE' := HEE.out
                    rw [dec_last H1.out H2.out H3.out HP.out hg2.out he] at hE'
                    injection hE' with f1 f2
                    subst f1; subst f2
                    have hne : (e2 != 0) = true := by simp [he]
                    clear hg2 he HEE hbd
                    obtain ⟨s0, t0, s1, t1, s2, t2, s3, t3, s4, t4, s5, t5, s6, t6, s7, t7, s8, t8, s9, t9, s10, t10, s11, t11⟩ := HD.out.rn.cr
                    obtain ⟨r0, r1, r2, r3, r4, r5, r6, r7, r8, r9, r10, r11⟩ := HD.out.rn.cn
                    go_wp2
                    obtain ⟨hbF, hkF⟩ := store12 w2 w.heap.size (.slice none 0 0) (.slice none 0 0) (.slice none 0 0) (.slice none 0 0) (.slice none 0 0) (.slice none 0 0) (.slice none 0 0) (.slice none 0 0) (.slice none 0 0) (.slice none 0 0) (.slice none 0 0) (.slice none 0 0) HD.out.rn.res
                    generalize (World.setCell (World.setCell (World.setCell (World.setCell (World.setCell (World.setCell (World.setCell (World.setCell (World.setCell (World.setCell (World.setCell (World.setCell w2 ⟨w.heap.size, 0, none⟩ (.slice none 0 0)) ⟨w.heap.size, 1, none⟩ (.slice none 0 0)) ⟨w.heap.size, 2, none⟩ (.slice none 0 0)) ⟨w.heap.size, 3, none⟩ (.slice none 0 0)) ⟨w.heap.size, 4, none⟩ (.slice none 0 0)) ⟨w.heap.size, 5, none⟩ (.slice none 0 0)) ⟨w.heap.size, 6, none⟩ (.slice none 0 0)) ⟨w.heap.size, 7, none⟩ (.slice none 0 0)) ⟨w.heap.size, 8, none⟩ (.slice none 0 0)) ⟨w.heap.size, 9, none⟩ (.slice none 0 0)) ⟨w.heap.size, 10, none⟩ (.slice none 0 0)) ⟨w.heap.size, 11, none⟩ (.slice none 0 0)) = WF at hbF hkF ⊢
                    obtain ⟨⟨Q0, Q1, Q2, Q3, Q4, Q5⟩, ⟨Q6, Q7, Q8, Q9, Q10, Q11⟩⟩ := hbF.load
                    simp only at Q0 Q1 Q2 Q3 Q4 Q5 Q6 Q7 Q8 Q9 Q10 Q11
                    refine bodyPost_ret (v := .tuple #[.agg #[.slice none 0 0, .slice none 0 0, .slice none 0 0, .slice none 0 0, .slice none 0 0, .slice none 0 0, .slice none 0 0, .slice none 0 0, .slice none 0 0, .slice none 0 0, .slice none 0 0, .slice none 0 0], .int .i64 e2]) (by simp [results, Tryz.results41, go_sem, Q0, Q1, Q2, Q3, Q4, Q5, Q6, Q7, Q8, Q9, Q10, Q11]) rfl ?_
                    exact ⟨⟨.slice none 0 0, .slice none 0 0, .slice none 0 0, .slice none 0 0, .slice none 0 0, .slice none 0 0, .slice none 0 0, .slice none 0 0, .slice none 0 0, .slice none 0 0, .slice none 0 0, .slice none 0 0⟩, rfl, noV _, HD.out.rn.bel.trans (hkF.below HD.out.rn.bel.size (fun k _ e => by omega))⟩
                  case pos =>
                    subst he
                    have hj2 : j2 ≤ s.size := by
                      have := getS_bd (s := s) (i := pn) ⟨by omega, by omega⟩ (by rw [hg2.out])
                      rw [hg2.out] at this
                      exact this.2
                    obtain ⟨Y, hY⟩ : ∃ Y, Hid (sumS (s.extract 0 pn) = Y) := ⟨_, rfl⟩
                    clear hbd
                    go_wp2_with fail
                    refine (rsum_any (s.extract 0 pn) Y _ (by unfold maxLen; simp; omega) hY).mono ?_
                    rintro e0 w3 ⟨rfl, rfl⟩
                    by_cases hv : v = Y
                    case neg =>
                      have hE' := HEE.out
                      rw [dec_sum H1.out H2.out H3.out HP.out hg2.out (by rw [Int.toNat_natCast, hY.out]; exact hv)] at hE'
                      injection hE' with f1 f2
                      subst f1; subst f2
                      have hne : (v != Y) = true := by simp [hv]
                      clear hg2 hv HEE
                      obtain ⟨s0, t0, s1, t1, s2, t2, s3, t3, s4, t4, s5, t5, s6, t6, s7, t7, s8, t8, s9, t9, s10, t10, s11, t11⟩ := HD.out.rn.cr
                      obtain ⟨r0, r1, r2, r3, r4, r5, r6, r7, r8, r9, r10, r11⟩ := HD.out.rn.cn
                      go_wp2
                      obtain ⟨hbF, hkF⟩ := store12 w2 w.heap.size (.slice none 0 0) (.slice none 0 0) (.slice none 0 0) (.slice none 0 0) (.slice none 0 0) (.slice none 0 0) (.slice none 0 0) (.slice none 0 0) (.slice none 0 0) (.slice none 0 0) (.slice none 0 0) (.slice none 0 0) HD.out.rn.res
                      generalize (World.setCell (World.setCell (World.setCell (World.setCell (World.setCell (World.setCell (World.setCell (World.setCell (World.setCell (World.setCell (World.setCell (World.setCell w2 ⟨w.heap.size, 0, none⟩ (.slice none 0 0)) ⟨w.heap.size, 1, none⟩ (.slice none 0 0)) ⟨w.heap.size, 2, none⟩ (.slice none 0 0)) ⟨w.heap.size, 3, none⟩ (.slice none 0 0)) ⟨w.heap.size, 4, none⟩ (.slice none 0 0)) ⟨w.heap.size, 5, none⟩ (.slice none 0 0)) ⟨w.heap.size, 6, none⟩ (.slice none 0 0)) ⟨w.heap.size, 7, none⟩ (.slice none 0 0)) ⟨w.heap.size, 8, none⟩ (.slice none 0 0)) ⟨w.heap.size, 9, none⟩ (.slice none 0 0)) ⟨w.heap.size, 10, none⟩ (.slice none 0 0)) ⟨w.heap.size, 11, none⟩ (.slice none 0 0)) = WF at hbF hkF ⊢
                      obtain ⟨⟨Q0, Q1, Q2, Q3, Q4, Q5⟩, ⟨Q6, Q7, Q8, Q9, Q10, Q11⟩⟩ := hbF.load
                      simp only at Q0 Q1 Q2 Q3 Q4 Q5 Q6 Q7 Q8 Q9 Q10 Q11
                      refine bodyPost_ret (v := .tuple #[.agg #[.slice none 0 0, .slice none 0 0, .slice none 0 0, .slice none 0 0, .slice none 0 0, .slice none 0 0, .slice none 0 0, .slice none 0 0, .slice none 0 0, .slice none 0 0, .slice none 0 0, .slice none 0 0], .int .i64 6]) (by simp [results, Tryz.results41, go_sem, Q0, Q1, Q2, Q3, Q4, Q5, Q6, Q7, Q8, Q9, Q10, Q11]) rfl ?_
                      exact ⟨⟨.slice none 0 0, .slice none 0 0, .slice none 0 0, .slice none 0 0, .slice none 0 0, .slice none 0 0, .slice none 0 0, .slice none 0 0, .slice none 0 0, .slice none 0 0, .slice none 0 0, .slice none 0 0⟩, rfl, noV _, HD.out.rn.bel.trans (hkF.below HD.out.rn.bel.size (fun k _ e => by omega))⟩
                    case pos =>
                      subst hv
                      have hne : (v != v) = false := by simp
                      by_cases hj : j2 = s.size
                      case neg =>
                        have hE' := HEE.out
                        rw [dec_tail H1.out H2.out H3.out HP.out hg2.out (by rw [Int.toNat_natCast, hY.out]) hj] at hE'
                        injection hE' with f1 f2
                        subst f1; subst f2
                        have hj3 : j2 < (s.size : Int) := by omega
                        clear hg2 HEE hj2 hj
                        obtain ⟨s0, t0, s1, t1, s2, t2, s3, t3, s4, t4, s5, t5, s6, t6, s7, t7, s8, t8, s9, t9, s10, t10, s11, t11⟩ := HD.out.rn.cr
                        obtain ⟨r0, r1, r2, r3, r4, r5, r6, r7, r8, r9, r10, r11⟩ := HD.out.rn.cn
                        go_wp2
                        obtain ⟨hbF, hkF⟩ := store12 w2 w.heap.size (.slice none 0 0) (.slice none 0 0) (.slice none 0 0) (.slice none 0 0) (.slice none 0 0) (.slice none 0 0) (.slice none 0 0) (.slice none 0 0) (.slice none 0 0) (.slice none 0 0) (.slice none 0 0) (.slice none 0 0) HD.out.rn.res
                        generalize (World.setCell (World.setCell (World.setCell (World.setCell (World.setCell (World.setCell (World.setCell (World.setCell (World.setCell (World.setCell (World.setCell (World.setCell w2 ⟨w.heap.size, 0, none⟩ (.slice none 0 0)) ⟨w.heap.size, 1, none⟩ (.slice none 0 0)) ⟨w.heap.size, 2, none⟩ (.slice none 0 0)) ⟨w.heap.size, 3, none⟩ (.slice none 0 0)) ⟨w.heap.size, 4, none⟩ (.slice none 0 0)) ⟨w.heap.size, 5, none⟩ (.slice none 0 0)) ⟨w.heap.size, 6, none⟩ (.slice none 0 0)) ⟨w.heap.size, 7, none⟩ (.slice none 0 0)) ⟨w.heap.size, 8, none⟩ (.slice none 0 0)) ⟨w.heap.size, 9, none⟩ (.slice none 0 0)) ⟨w.heap.size, 10, none⟩ (.slice none 0 0)) ⟨w.heap.size, 11, none⟩ (.slice none 0 0)) = WF at hbF hkF ⊢
                        obtain ⟨⟨Q0, Q1, Q2, Q3, Q4, Q5⟩, ⟨Q6, Q7, Q8, Q9, Q10, Q11⟩⟩ := hbF.load
                        simp only at Q0 Q1 Q2 Q3 Q4 Q5 Q6 Q7 Q8 Q9 Q10 Q11
                        refine bodyPost_ret (v := .tuple #[.agg #[.slice none 0 0, .slice none 0 0, .slice none 0 0, .slice none 0 0, .slice none 0 0, .slice none 0 0, .slice none 0 0, .slice none 0 0, .slice none 0 0, .slice none 0 0, .slice none 0 0, .slice none 0 0], .int .i64 4]) (by simp [results, Tryz.results41, go_sem, Q0, Q1, Q2, Q3, Q4, Q5, Q6, Q7, Q8, Q9, Q10, Q11]) rfl ?_
                        exact ⟨⟨.slice none 0 0, .slice none 0 0, .slice none 0 0, .slice none 0 0, .slice none 0 0, .slice none 0 0, .slice none 0 0, .slice none 0 0, .slice none 0 0, .slice none 0 0, .slice none 0 0, .slice none 0 0⟩, rfl, noV _, HD.out.rn.bel.trans (hkF.below HD.out.rn.bel.size (fun k _ e => by omega))⟩
                      case pos =>
                        have hE' := HEE.out
                        rw [dec_all H1.out H2.out H3.out HP.out hg2.out (by rw [Int.toNat_natCast, hY.out]) hj] at hE'
                        have hj3 : ¬ j2 < (s.size : Int) := by omega
                        have hj4 : (decide (j2 < (s.size : Int))) = false := by simp; omega
                        have HX2 : InO w2 (fun b => gb < b) vx (itL s) := by rw [HL.out]; exact HX.out
                        have HTK : Hid (∀ w'', Keeps w2 w'' (fun k => k ≤ gb) → TabV w'' ⟨fa 0, fa 1, fa 2, fa 3, fa 4, fa 5, fa 6, fb 0, fb 1, fb 2, vx, fb 3⟩ (allT s)) := fun w'' hk => HD.out.tabK HX2 hk
                        have HT := Lib.hid (HTK.out w2 (Keeps.refl _ _))
                        clear HX2
                        have HCP := Lib.hid (HD.out.mpb 2 (by omega)).2
                        obtain ⟨V, hV⟩ : ∃ V, Hid (checkT (allT s) = V) := ⟨_, rfl⟩
                        rw [hV.out] at hE'
                        clear hg2 HEE hj2 hY hj
                        obtain ⟨c0, _⟩ := HD.out.ra 0 (by omega)
                        obtain ⟨p0, n0, q0, hsl0⟩ : Slc (fa 0) := HT.out.cat.slc
                        rw [hsl0] at c0 HT HTK
                        obtain ⟨c1, _⟩ := HD.out.ra 1 (by omega)
                        obtain ⟨p1, n1, q1, hsl1⟩ : Slc (fa 1) := HT.out.cls.slc
                        rw [hsl1] at c1 HT HTK
                        obtain ⟨c2, _⟩ := HD.out.ra 2 (by omega)
                        obtain ⟨p2, n2, q2, hsl2⟩ : Slc (fa 2) := HT.out.joi.slc
                        rw [hsl2] at c2 HT HTK
                        obtain ⟨c3, _⟩ := HD.out.ra 3 (by omega)
                        obtain ⟨p3, n3, q3, hsl3⟩ : Slc (fa 3) := HT.out.bid.slc
                        rw [hsl3] at c3 HT HTK
                        obtain ⟨c4, _⟩ := HD.out.ra 4 (by omega)
                        obtain ⟨p4, n4, q4, hsl4⟩ : Slc (fa 4) := HT.out.scr.slc
                        rw [hsl4] at c4 HT HTK
                        obtain ⟨c5, _⟩ := HD.out.ra 5 (by omega)
                        obtain ⟨p5, n5, q5, hsl5⟩ : Slc (fa 5) := HT.out.sta.slc
                        rw [hsl5] at c5 HT HTK
                        obtain ⟨c6, _⟩ := HD.out.ra 6 (by omega)
                        obtain ⟨p6, n6, q6, hsl6⟩ : Slc (fa 6) := HT.out.ign.slc
                        rw [hsl6] at c6 HT HTK
                        obtain ⟨c7, _⟩ := HD.out.rb 0 (by omega)
                        obtain ⟨p7, n7, q7, hsl7⟩ : Slc (fb 0) := HT.out.ext.slc
                        rw [hsl7] at c7 HT HTK
                        obtain ⟨c8, _⟩ := HD.out.rb 1 (by omega)
                        obtain ⟨p8, n8, q8, hsl8⟩ : Slc (fb 1) := HT.out.map.slc
                        rw [hsl8] at c8 HT HTK
                        obtain ⟨c9, _⟩ := HD.out.rb 2 (by omega)
                        obtain ⟨p9, n9, q9, hsl9⟩ : Slc (fb 2) := HT.out.dec.slc
                        rw [hsl9] at c9 HT HTK HCP
                        obtain ⟨p10, n10, q10, hsl10⟩ : Slc vx := HT.out.exc.slc
                        subst hsl10
                        obtain ⟨c11, _⟩ := HD.out.rb 3 (by omega)
                        obtain ⟨p11, n11, q11, hsl11⟩ : Slc (fb 3) := HT.out.pro.slc
                        rw [hsl11] at c11 HT HTK
                        clear HX
                        go_upto_region 37 with (fail)
                        have hba : Below w2.heap.size w2 (w2.alloc (.cells #[.slice p0 n0 q0, .slice p1 n1 q1, .slice p2 n2 q2, .slice p3 n3 q3, .slice p4 n4 q4, .slice p5 n5 q5, .slice p6 n6 q6, .slice p7 n7 q7, .slice p8 n8 q8, .slice p9 n9 q9, .slice p10 n10 q10, .slice p11 n11 q11] 29)) := (Below.refl _ _).alloc (Nat.le_refl _) _
                        have HN5 := Lib.hid (HD.out.rn.below hba)
                        have HT5 := Lib.hid (HT.out.below hba)
                        have HK5 : Hid (Keeps w2 (w2.alloc (.cells #[.slice p0 n0 q0, .slice p1 n1 q1, .slice p2 n2 q2, .slice p3 n3 q3, .slice p4 n4 q4, .slice p5 n5 q5, .slice p6 n6 q6, .slice p7 n7 q7, .slice p8 n8 q8, .slice p9 n9 q9, .slice p10 n10 q10, .slice p11 n11 q11] 29)) (fun k => k ≤ gb)) := (Keeps.alloc _ _).weak (fun _ _ e => e.elim)
                        have HG := Lib.hid (show w.heap.size ≤ gb from by have := HD.out.g1; have := HD.out.g2; omega)
                        have HG3 := Lib.hid HD.out.g3
                        have HB5 := Lib.hid (BoxT.new w2 ⟨.slice p0 n0 q0, .slice p1 n1 q1, .slice p2 n2 q2, .slice p3 n3 q3, .slice p4 n4 q4, .slice p5 n5 q5, .slice p6 n6 q6, .slice p7 n7 q7, .slice p8 n8 q8, .slice p9 n9 q9, .slice p10 n10 q10, .slice p11 n11 q11⟩ 29)
                        simp only [tabCells] at HB5
                        clear hba HD HT c0 hsl0 c1 hsl1 c2 hsl2 c3 hsl3 c4 hsl4 c5 hsl5 c6 hsl6 c7 hsl7 c8 hsl8 c9 hsl9 c11 hsl11
                        generalize (w2.alloc (.cells #[.slice p0 n0 q0, .slice p1 n1 q1, .slice p2 n2 q2, .slice p3 n3 q3, .slice p4 n4 q4, .slice p5 n5 q5, .slice p6 n6 q6, .slice p7 n7 q7, .slice p8 n8 q8, .slice p9 n9 q9, .slice p10 n10 q10, .slice p11 n11 q11] 29)) = W5 at HN5 HT5 HB5 HK5 ⊢
                        have HZ := Lib.hid HK5.out.size
                        generalize w2.heap.size = g5 at HB5 ⊢
                        obtain ⟨⟨k0, k1, k2, k3, k4, k5⟩, ⟨k6, k7, k8, k9, k10, k11⟩⟩ := HB5.out.load
                        simp only at k0 k1 k2 k3 k4 k5 k6 k7 k8 k9 k10 k11
                        go_wp2_with fail
                        refine (rcheck_tab ⟨.slice p0 n0 q0, .slice p1 n1 q1, .slice p2 n2 q2, .slice p3 n3 q3, .slice p4 n4 q4, .slice p5 n5 q5, .slice p6 n6 q6, .slice p7 n7 q7, .slice p8 n8 q8, .slice p9 n9 q9, .slice p10 n10 q10, .slice p11 n11 q11⟩ (allT s) V _ HT5.out HCP.out hV).mono ?_
                        rintro e0 w6 ⟨rfl, hb6⟩
                        replace HN5 := Lib.hid (HN5.out.below hb6)
                        replace HK5 := Lib.hid (HK5.out.trans (Keeps.of_below hb6) (S := fun k => k ≤ gb) (fun _ _ e => e) (fun k hk e => by have := HG3.out; have := HZ.out; omega))
                        replace HT5 := Lib.hid (HT5.out.below hb6)
                        replace HB5 := Lib.hid (HB5.out.below hb6)
                        clear hb6 k0 k1 k2 k3 k4 k5 k6 k7 k8 k9 k10 k11
                        by_cases hv0 : V = 0
                        case neg =>
                          rw [if_pos hv0] at hE'
                          injection hE' with f1 f2
                          subst f1; subst f2
                          have hne2 : (V != 0) = true := by simp [hv0]
                          clear hv0
                          obtain ⟨s0, t0, s1, t1, s2, t2, s3, t3, s4, t4, s5, t5, s6, t6, s7, t7, s8, t8, s9, t9, s10, t10, s11, t11⟩ := HN5.out.cr
                          obtain ⟨r0, r1, r2, r3, r4, r5, r6, r7, r8, r9, r10, r11⟩ := HN5.out.cn
                          go_wp2
                          obtain ⟨hbF, hkF⟩ := store12 w6 w.heap.size (.slice none 0 0) (.slice none 0 0) (.slice none 0 0) (.slice none 0 0) (.slice none 0 0) (.slice none 0 0) (.slice none 0 0) (.slice none 0 0) (.slice none 0 0) (.slice none 0 0) (.slice none 0 0) (.slice none 0 0) HN5.out.res
                          generalize (World.setCell (World.setCell (World.setCell (World.setCell (World.setCell (World.setCell (World.setCell (World.setCell (World.setCell (World.setCell (World.setCell (World.setCell w6 ⟨w.heap.size, 0, none⟩ (.slice none 0 0)) ⟨w.heap.size, 1, none⟩ (.slice none 0 0)) ⟨w.heap.size, 2, none⟩ (.slice none 0 0)) ⟨w.heap.size, 3, none⟩ (.slice none 0 0)) ⟨w.heap.size, 4, none⟩ (.slice none 0 0)) ⟨w.heap.size, 5, none⟩ (.slice none 0 0)) ⟨w.heap.size, 6, none⟩ (.slice none 0 0)) ⟨w.heap.size, 7, none⟩ (.slice none 0 0)) ⟨w.heap.size, 8, none⟩ (.slice none 0 0)) ⟨w.heap.size, 9, none⟩ (.slice none 0 0)) ⟨w.heap.size, 10, none⟩ (.slice none 0 0)) ⟨w.heap.size, 11, none⟩ (.slice none 0 0)) = WF at hbF hkF ⊢
                          obtain ⟨⟨Q0, Q1, Q2, Q3, Q4, Q5⟩, ⟨Q6, Q7, Q8, Q9, Q10, Q11⟩⟩ := hbF.load
                          simp only at Q0 Q1 Q2 Q3 Q4 Q5 Q6 Q7 Q8 Q9 Q10 Q11
                          refine bodyPost_ret (v := .tuple #[.agg #[.slice none 0 0, .slice none 0 0, .slice none 0 0, .slice none 0 0, .slice none 0 0, .slice none 0 0, .slice none 0 0, .slice none 0 0, .slice none 0 0, .slice none 0 0, .slice none 0 0, .slice none 0 0], .int .i64 2]) (by simp [results, Tryz.results41, go_sem, Q0, Q1, Q2, Q3, Q4, Q5, Q6, Q7, Q8, Q9, Q10, Q11]) rfl ?_
                          exact ⟨⟨.slice none 0 0, .slice none 0 0, .slice none 0 0, .slice none 0 0, .slice none 0 0, .slice none 0 0, .slice none 0 0, .slice none 0 0, .slice none 0 0, .slice none 0 0, .slice none 0 0, .slice none 0 0⟩, rfl, noV _, HN5.out.bel.trans (hkF.below HN5.out.bel.size (fun k _ e => by omega))⟩
                        case pos =>
                          subst hv0
                          rw [if_neg (by simp)] at hE'
                          have hE2 := hE'.symm
                          injection hE2 with f1 f2
                          subst f1; subst f2
                          obtain ⟨⟨k0, k1, k2, k3, k4, k5⟩, ⟨k6, k7, k8, k9, k10, k11⟩⟩ := HB5.out.load
                          simp only at k0 k1 k2 k3 k4 k5 k6 k7 k8 k9 k10 k11
                          obtain ⟨s0, t0, s1, t1, s2, t2, s3, t3, s4, t4, s5, t5, s6, t6, s7, t7, s8, t8, s9, t9, s10, t10, s11, t11⟩ := HN5.out.cr
                          go_wp2
                          obtain ⟨hbF, hkF⟩ := store12 w6 w.heap.size (.slice p0 n0 q0) (.slice p1 n1 q1) (.slice p2 n2 q2) (.slice p3 n3 q3) (.slice p4 n4 q4) (.slice p5 n5 q5) (.slice p6 n6 q6) (.slice p7 n7 q7) (.slice p8 n8 q8) (.slice p9 n9 q9) (.slice p10 n10 q10) (.slice p11 n11 q11) HN5.out.res
                          generalize (World.setCell (World.setCell (World.setCell (World.setCell (World.setCell (World.setCell (World.setCell (World.setCell (World.setCell (World.setCell (World.setCell (World.setCell w6 ⟨w.heap.size, 0, none⟩ (.slice p0 n0 q0)) ⟨w.heap.size, 1, none⟩ (.slice p1 n1 q1)) ⟨w.heap.size, 2, none⟩ (.slice p2 n2 q2)) ⟨w.heap.size, 3, none⟩ (.slice p3 n3 q3)) ⟨w.heap.size, 4, none⟩ (.slice p4 n4 q4)) ⟨w.heap.size, 5, none⟩ (.slice p5 n5 q5)) ⟨w.heap.size, 6, none⟩ (.slice p6 n6 q6)) ⟨w.heap.size, 7, none⟩ (.slice p7 n7 q7)) ⟨w.heap.size, 8, none⟩ (.slice p8 n8 q8)) ⟨w.heap.size, 9, none⟩ (.slice p9 n9 q9)) ⟨w.heap.size, 10, none⟩ (.slice p10 n10 q10)) ⟨w.heap.size, 11, none⟩ (.slice p11 n11 q11)) = WF at hbF hkF ⊢
                          obtain ⟨⟨Q0, Q1, Q2, Q3, Q4, Q5⟩, ⟨Q6, Q7, Q8, Q9, Q10, Q11⟩⟩ := hbF.load
                          simp only at Q0 Q1 Q2 Q3 Q4 Q5 Q6 Q7 Q8 Q9 Q10 Q11
                          refine bodyPost_ret (v := .tuple #[.agg #[.slice p0 n0 q0, .slice p1 n1 q1, .slice p2 n2 q2, .slice p3 n3 q3, .slice p4 n4 q4, .slice p5 n5 q5, .slice p6 n6 q6, .slice p7 n7 q7, .slice p8 n8 q8, .slice p9 n9 q9, .slice p10 n10 q10, .slice p11 n11 q11], .int .i64 0]) (by simp [results, Tryz.results41, go_sem, Q0, Q1, Q2, Q3, Q4, Q5, Q6, Q7, Q8, Q9, Q10, Q11]) rfl ?_
                          exact ⟨⟨.slice p0 n0 q0, .slice p1 n1 q1, .slice p2 n2 q2, .slice p3 n3 q3, .slice p4 n4 q4, .slice p5 n5 q5, .slice p6 n6 q6, .slice p7 n7 q7, .slice p8 n8 q8, .slice p9 n9 q9, .slice p10 n10 q10, .slice p11 n11 q11⟩, rfl, HTK.out WF (HK5.out.trans hkF (S := fun k => k ≤ gb) (fun _ _ e => e) (fun k hk e => by have := HG.out; omega)), HN5.out.bel.trans (hkF.below HN5.out.bel.size (fun k _ e => by omega))⟩

end Go.Proofs.YtnnhcgflmhjakaaGreatDoor

namespace Go.Proofs.YtnnhcgflmhjakaaGreatDoor
open Go Go.RowKit
set_option linter.unusedVariables false

set_option maxRecDepth 100000 in
set_option maxHeartbeats 8000000 in
theorem decodes_t (s : ByteArray) (w : World) (hs : s.size ≤ maxLen) (hr : Rsv w) :
    Calls Tryz.prog 14 #[.string s] w (Gives (.bool true) w) := by
  have HS := Lib.hid hs
  have HR := Lib.hid hr
  clear hs hr
  obtain ⟨T, er, hdec⟩ : ∃ T er, Hid (decT s = (T, er)) := ⟨_, _, rfl⟩
  go_enter Tryz.func14, Tryz.ntmps14
  go_wp2_with fail
  refine (decode_t s T er _ HS.out HR.out hdec).mono ?_
  rintro e w1 ⟨⟨a0, a1, a2, a3, a4, a5, a6, a7, a8, a9, a10, a11⟩, rfl, htv0, hb1⟩
  have htv := htv0 w1 (Keeps.refl _ _)
  obtain ⟨pa0, na0, qa0, hsl0⟩ : Slc a0 := htv.cat.slc
  subst hsl0
  obtain ⟨pa1, na1, qa1, hsl1⟩ : Slc a1 := htv.cls.slc
  subst hsl1
  obtain ⟨pa2, na2, qa2, hsl2⟩ : Slc a2 := htv.joi.slc
  subst hsl2
  obtain ⟨pa3, na3, qa3, hsl3⟩ : Slc a3 := htv.bid.slc
  subst hsl3
  obtain ⟨pa4, na4, qa4, hsl4⟩ : Slc a4 := htv.scr.slc
  subst hsl4
  obtain ⟨pa5, na5, qa5, hsl5⟩ : Slc a5 := htv.sta.slc
  subst hsl5
  obtain ⟨pa6, na6, qa6, hsl6⟩ : Slc a6 := htv.ign.slc
  subst hsl6
  obtain ⟨pa7, na7, qa7, hsl7⟩ : Slc a7 := htv.ext.slc
  subst hsl7
  obtain ⟨pa8, na8, qa8, hsl8⟩ : Slc a8 := htv.map.slc
  subst hsl8
  obtain ⟨pa9, na9, qa9, hsl9⟩ : Slc a9 := htv.dec.slc
  subst hsl9
  obtain ⟨pa10, na10, qa10, hsl10⟩ : Slc a10 := htv.exc.slc
  subst hsl10
  obtain ⟨pa11, na11, qa11, hsl11⟩ : Slc a11 := htv.pro.slc
  subst hsl11
  have hba : Below w1.heap.size w1 (w1.alloc (.cells #[.slice pa0 na0 qa0, .slice pa1 na1 qa1, .slice pa2 na2 qa2, .slice pa3 na3 qa3, .slice pa4 na4 qa4, .slice pa5 na5 qa5, .slice pa6 na6 qa6, .slice pa7 na7 qa7, .slice pa8 na8 qa8, .slice pa9 na9 qa9, .slice pa10 na10 qa10, .slice pa11 na11 qa11] 29)) := (Below.refl _ _).alloc (Nat.le_refl _) _
  have HT1 : Hid (TabV (w1.alloc (.cells #[.slice pa0 na0 qa0, .slice pa1 na1 qa1, .slice pa2 na2 qa2, .slice pa3 na3 qa3, .slice pa4 na4 qa4, .slice pa5 na5 qa5, .slice pa6 na6 qa6, .slice pa7 na7 qa7, .slice pa8 na8 qa8, .slice pa9 na9 qa9, .slice pa10 na10 qa10, .slice pa11 na11 qa11] 29)) ⟨.slice pa0 na0 qa0, .slice pa1 na1 qa1, .slice pa2 na2 qa2, .slice pa3 na3 qa3, .slice pa4 na4 qa4, .slice pa5 na5 qa5, .slice pa6 na6 qa6, .slice pa7 na7 qa7, .slice pa8 na8 qa8, .slice pa9 na9 qa9, .slice pa10 na10 qa10, .slice pa11 na11 qa11⟩ T) := htv.below hba
  have HX1 := Lib.hid (BoxT.new w1 ⟨.slice pa0 na0 qa0, .slice pa1 na1 qa1, .slice pa2 na2 qa2, .slice pa3 na3 qa3, .slice pa4 na4 qa4, .slice pa5 na5 qa5, .slice pa6 na6 qa6, .slice pa7 na7 qa7, .slice pa8 na8 qa8, .slice pa9 na9 qa9, .slice pa10 na10 qa10, .slice pa11 na11 qa11⟩ 29)
  have HB1 : Hid (Below w.heap.size w (w1.alloc (.cells #[.slice pa0 na0 qa0, .slice pa1 na1 qa1, .slice pa2 na2 qa2, .slice pa3 na3 qa3, .slice pa4 na4 qa4, .slice pa5 na5 qa5, .slice pa6 na6 qa6, .slice pa7 na7 qa7, .slice pa8 na8 qa8, .slice pa9 na9 qa9, .slice pa10 na10 qa10, .slice pa11 na11 qa11] 29))) := hb1.trans (hba.mono hb1.size)
  clear htv htv0 hb1 hba
  simp only [tabCells] at HX1
  go_upto_region 2 with (fail)
  generalize (w1.alloc (.cells #[.slice pa0 na0 qa0, .slice pa1 na1 qa1, .slice pa2 na2 qa2, .slice pa3 na3 qa3, .slice pa4 na4 qa4, .slice pa5 na5 qa5, .slice pa6 na6 qa6, .slice pa7 na7 qa7, .slice pa8 na8 qa8, .slice pa9 na9 qa9, .slice pa10 na10 qa10, .slice pa11 na11 qa11] 29)) = W at HT1 HX1 HB1 ⊢
  generalize w1.heap.size = g at HX1 ⊢
  generalize (⟨.slice pa0 na0 qa0, .slice pa1 na1 qa1, .slice pa2 na2 qa2, .slice pa3 na3 qa3, .slice pa4 na4 qa4, .slice pa5 na5 qa5, .slice pa6 na6 qa6, .slice pa7 na7 qa7, .slice pa8 na8 qa8, .slice pa9 na9 qa9, .slice pa10 na10 qa10, .slice pa11 na11 qa11⟩ : TV) = x at HT1 HX1
  have HE : Hid (DEnv w g x T W) := ⟨HT1.out, HX1.out, HB1.out⟩
  clear HT1 HX1 HB1
  go_wp2_with fail
  refine (rdecode_t s T er _ HS.out hdec).mono ?_
  rintro e w2 ⟨⟨a0, a1, a2, a3, a4, a5, a6, a7, a8, a9, a10, a11⟩, rfl, htv, hb2⟩
  replace HE := Lib.hid (HE.out.step hb2)
  obtain ⟨pb0, nb0, qb0, hsl0⟩ : Slc a0 := htv.cat.slc
  subst hsl0
  obtain ⟨pb1, nb1, qb1, hsl1⟩ : Slc a1 := htv.cls.slc
  subst hsl1
  obtain ⟨pb2, nb2, qb2, hsl2⟩ : Slc a2 := htv.joi.slc
  subst hsl2
  obtain ⟨pb3, nb3, qb3, hsl3⟩ : Slc a3 := htv.bid.slc
  subst hsl3
  obtain ⟨pb4, nb4, qb4, hsl4⟩ : Slc a4 := htv.scr.slc
  subst hsl4
  obtain ⟨pb5, nb5, qb5, hsl5⟩ : Slc a5 := htv.sta.slc
  subst hsl5
  obtain ⟨pb6, nb6, qb6, hsl6⟩ : Slc a6 := htv.ign.slc
  subst hsl6
  obtain ⟨pb7, nb7, qb7, hsl7⟩ : Slc a7 := htv.ext.slc
  subst hsl7
  obtain ⟨pb8, nb8, qb8, hsl8⟩ : Slc a8 := htv.map.slc
  subst hsl8
  obtain ⟨pb9, nb9, qb9, hsl9⟩ : Slc a9 := htv.dec.slc
  subst hsl9
  obtain ⟨pb10, nb10, qb10, hsl10⟩ : Slc a10 := htv.exc.slc
  subst hsl10
  obtain ⟨pb11, nb11, qb11, hsl11⟩ : Slc a11 := htv.pro.slc
  subst hsl11
  have hba : Below w2.heap.size w2 (w2.alloc (.cells #[.slice pb0 nb0 qb0, .slice pb1 nb1 qb1, .slice pb2 nb2 qb2, .slice pb3 nb3 qb3, .slice pb4 nb4 qb4, .slice pb5 nb5 qb5, .slice pb6 nb6 qb6, .slice pb7 nb7 qb7, .slice pb8 nb8 qb8, .slice pb9 nb9 qb9, .slice pb10 nb10 qb10, .slice pb11 nb11 qb11] 29)) := (Below.refl _ _).alloc (Nat.le_refl _) _
  have HT2 : Hid (TabV (w2.alloc (.cells #[.slice pb0 nb0 qb0, .slice pb1 nb1 qb1, .slice pb2 nb2 qb2, .slice pb3 nb3 qb3, .slice pb4 nb4 qb4, .slice pb5 nb5 qb5, .slice pb6 nb6 qb6, .slice pb7 nb7 qb7, .slice pb8 nb8 qb8, .slice pb9 nb9 qb9, .slice pb10 nb10 qb10, .slice pb11 nb11 qb11] 29)) ⟨.slice pb0 nb0 qb0, .slice pb1 nb1 qb1, .slice pb2 nb2 qb2, .slice pb3 nb3 qb3, .slice pb4 nb4 qb4, .slice pb5 nb5 qb5, .slice pb6 nb6 qb6, .slice pb7 nb7 qb7, .slice pb8 nb8 qb8, .slice pb9 nb9 qb9, .slice pb10 nb10 qb10, .slice pb11 nb11 qb11⟩ T) := htv.below hba
  have HX2 := Lib.hid (BoxT.new w2 ⟨.slice pb0 nb0 qb0, .slice pb1 nb1 qb1, .slice pb2 nb2 qb2, .slice pb3 nb3 qb3, .slice pb4 nb4 qb4, .slice pb5 nb5 qb5, .slice pb6 nb6 qb6, .slice pb7 nb7 qb7, .slice pb8 nb8 qb8, .slice pb9 nb9 qb9, .slice pb10 nb10 qb10, .slice pb11 nb11 qb11⟩ 29)
  replace HE := Lib.hid (HE.out.step hba)
  clear htv hb2 hba
  simp only [tabCells] at HX2
  go_upto_region 3 with (fail)
  generalize (w2.alloc (.cells #[.slice pb0 nb0 qb0, .slice pb1 nb1 qb1, .slice pb2 nb2 qb2, .slice pb3 nb3 qb3, .slice pb4 nb4 qb4, .slice pb5 nb5 qb5, .slice pb6 nb6 qb6, .slice pb7 nb7 qb7, .slice pb8 nb8 qb8, .slice pb9 nb9 qb9, .slice pb10 nb10 qb10, .slice pb11 nb11 qb11] 29)) = W2 at HT2 HX2 HE ⊢
  generalize w2.heap.size = g2 at HX2 ⊢
  generalize (⟨.slice pb0 nb0 qb0, .slice pb1 nb1 qb1, .slice pb2 nb2 qb2, .slice pb3 nb3 qb3, .slice pb4 nb4 qb4, .slice pb5 nb5 qb5, .slice pb6 nb6 qb6, .slice pb7 nb7 qb7, .slice pb8 nb8 qb8, .slice pb9 nb9 qb9, .slice pb10 nb10 qb10, .slice pb11 nb11 qb11⟩ : TV) = y at HT2 HX2
  have hee : (er == er) = true := by simp
  obtain ⟨⟨k0, k1, k2, k3, k4, k5⟩, ⟨k6, k7, k8, k9, k10, k11⟩⟩ := HE.out.box.load
  obtain ⟨⟨l0, l1, l2, l3, l4, l5⟩, ⟨l6, l7, l8, l9, l10, l11⟩⟩ := HX2.out.load
  go_wp2_with fail
  refine (sameTables_eq x y T _ HE.out.tab HT2.out).mono ?_
  rintro e w3 ⟨rfl, hb3⟩
  replace HE := Lib.hid (HE.out.step hb3)
  clear hb3 k0 k1 k2 k3 k4 k5 k6 k7 k8 k9 k10 k11 l0 l1 l2 l3 l4 l5 l6 l7 l8 l9 l10 l11
  go_wp2_with fail
  go_ret
  exact ⟨rfl, HE.out.bel⟩

end Go.Proofs.YtnnhcgflmhjakaaGreatDoor

namespace Go.Proofs.YtnnhcgflmhjakaaGreatDoor
open Go Go.RowKit
set_option linter.unusedVariables false

theorem conv_one (W : World) (g : Nat) (z : Int) (h : W.cell? ⟨g, 0, none⟩ = some (.int .u8 z)) :
    (convert 32 9 (.slice (some ⟨g, 0, none⟩) 1 1)).run Tryz.prog W = .ok (.string (strOfNums [z])) W := by
  refine run_convert_bytes_arg _ _ _ Tryz.underlying32 Tryz.underlying5 g 0 1 1 [z] rfl ?_ _ Tryz.underlying9
  intro i hi
  obtain rfl : i = 0 := by omega
  exact h

theorem made_few4 {T : Tb} (h : Made T) : Few 256 T := by
  have h0 := h.check
  apply few_of_r1
  unfold checkT at h0
  cases h1 : r1 T with
  | true => rfl
  | false => rw [h1] at h0; simp at h0

theorem empty_eq (X : ByteArray) : (X.toList == []) = decide (X = ByteArray.empty) := by
  rw [ByteArray.toList_eq, Bool.eq_iff_iff, beq_iff_eq, decide_eq_true_eq]
  constructor
  · intro h
    apply ByteArray.ext
    exact Array.ext' h
  · rintro rfl; rfl

theorem enc_four {T : Tb} {X : ByteArray} (hc : checkT T = 0) (h : encT T = (X, 0)) : 4 ≤ X.size := by
  have hd := dec_enc hc h
  by_cases h4 : X.size < 4
  · exfalso
    have hi : itemsT X = (noT, 5) := by rw [itemsT, if_neg (show ¬ 32768 < X.size by omega), if_pos h4]
    rw [decT, hi] at hd
    simp at hd
  · omega

theorem enc_size {T : Tb} {X : ByteArray} {er : Int} (h : encT T = (X, er)) : X = ByteArray.empty ∨ (4 ≤ X.size ∧ X.size ≤ 32768) := by
  by_cases hc : checkT T = 0
  · by_cases hb : 32768 < (rowsB T ++ putB (sumS (rowsB T))).size
    · rw [encT_full hc rfl hb] at h
      injection h with h1 _
      exact .inl h1.symm
    · have h' := h
      rw [encT_ok hc rfl hb] at h'
      injection h' with h1 h2
      subst h2
      exact .inr ⟨enc_four hc h, by rw [← h1]; omega⟩
  · rw [encT_bad hc] at h
    injection h with h1 _
    exact .inl h1.symm

set_option maxRecDepth 100000 in
set_option maxHeartbeats 16000000 in
theorem tableDecode_walk (raw : ByteArray) (p : Option Addr) (cap : Nat) (zs : List Int) (how at' v : Int) (w : World) (hraw : raw.size ≤ 140737488351232) (hin : IntsIn w p zs) (hl : zs.length ≤ 17592186043904) (hr : Rsv w) :
    Calls Tryz.prog 3 #[.string raw, .slice p zs.length cap, .int .i64 how, .int .i64 at', .int .i64 v] w (Gives (.bool true) w) := by
  have HI := Lib.hid hin
  have HL := Lib.hid hl
  have HR := Lib.hid hr
  have HRAW : Hid (raw.size ≤ maxLen) := by unfold Hid maxLen; omega
  obtain ⟨R4, hR4⟩ : ∃ S, sigB ++ raw = S := ⟨_, rfl⟩
  have h4s : sigB.size = 4 := rfl
  have hr4 : ∀ w, (Op.stringOp .add ⟨#[78, 68, 84, 49]⟩ raw).run Tryz.prog w = .ok (.string R4) w := fun w => by
    have := run_string_add_sum (P := Tryz.prog) w sigB raw (by omega)
    rw [hR4] at this
    exact this
  have HR4 : Hid (R4.size ≤ maxLen) := by unfold Hid maxLen; rw [← hR4, ByteArray.size_append]; omega
  clear hin hl hr hraw hR4 h4s
  go_enter Tryz.func3, Tryz.ntmps3
  go_wp2_with fail
  refine (tables_any p cap zs _ HI.out HL.out).mono ?_
  rintro e w1 ⟨x0, T, rfl, htv, hm, hcap1, hb1⟩
  obtain ⟨X, hX, hXs⟩ := made_fits hm
  have hX4 := enc_four hm.check hX
  have HEX := Lib.hid hX
  have HB : Hid (Below w.heap.size w w1) := hb1
  obtain ⟨n, hn⟩ : ∃ n, X.size = n := ⟨_, rfl⟩
  rw [hn] at hXs hX4
  obtain ⟨k, HK, hk⟩ := pickD_nm at' n (by omega)
  obtain ⟨z, HZ, hz⟩ := pickD_nm v 256 (by omega)
  have HN := Lib.hid hn
  clear hX hb1
  go_wp2_with fail
  refine (rencode_any x0 T X 0 _ htv hcap1 HEX).mono ?_
  rintro e w2 ⟨rfl, hb2⟩
  replace HB := Lib.hid (HB.out.trans (hb2.mono HB.out.size))
  clear hb2
  clear htv hcap1 hm hn
  have hnX : (X.size : Int) = (n : Int) := by rw [HN.out]
  go_wp2_with fail
  refine (pickD_at at' n k _ (by omega) (by omega) HK).mono ?_
  rintro e w3 ⟨rfl, rfl⟩
  go_wp2_with fail
  refine (pickD_at v 256 z _ (by omega) (by omega) HZ).mono ?_
  rintro e w3 ⟨rfl, rfl⟩
  have hzw : IntKind.u8.wrap (z : Int) = (z : Int) := by
    have : IntKind.u8.wrap (z : Int) = (z : Int) % 256 := rfl
    omega
  have hcv := conv_one (w2.alloc (.cells #[.int .u8 z] 5)) w2.heap.size z (World.cell?_alloc_new _ _ _ _)
  obtain ⟨q, HQ⟩ : ∃ q, Hid (pickS how 4 = q) := ⟨_, rfl⟩
  have hq := pickS_bd how 4 (by omega)
  rw [HQ.out] at hq
  replace HB := Lib.hid (HB.out.alloc HB.out.size (.cells #[.int .u8 z] 5))
  obtain ⟨bs, hbs⟩ : ∃ b, strOfNums [(z : Int)] = b := ⟨_, rfl⟩
  have hbs1 : bs.size = 1 := by rw [← hbs]; rfl
  rw [hbs] at hcv
  go_wp2_with fail
  refine (pickD_at how 4 q _ (by omega) (by omega) HQ).mono ?_
  rintro e w3 ⟨rfl, rfl⟩
  clear hcv
  generalize (w2.alloc (.cells #[.int .u8 z] 5)) = W3 at HB ⊢
  have hk1 : IntKind.i64.wrap ((k : Int) + 1) = ((k + 1 : Nat) : Int) := by rw [IntWalk.i64_in _ (by omega)]; omega
  have hk2 : (k : Int) ≤ (n : Int) := by omega
  have hk3 : ((k + 1 : Nat) : Int) ≤ (n : Int) := by omega
  have hq4 : q = 0 ∨ q = 1 ∨ q = 2 ∨ q = 3 := by omega
  rcases hq4 with rfl | rfl | rfl | rfl
  · obtain ⟨S1, hS1⟩ : ∃ S, X.extract 0 k ++ bs = S := ⟨_, rfl⟩
    obtain ⟨Y, hY⟩ : ∃ S, S1 ++ X.extract (k + 1) X.size = S := ⟨_, rfl⟩
    have h1s : S1.size ≤ 40000 := by rw [← hS1, ByteArray.size_append]; simp; omega
    have hYs : Y.size ≤ 80000 := by rw [← hY, ByteArray.size_append]; simp; omega
    have HYS : Hid (Y.size ≤ maxLen) := by unfold Hid maxLen; omega
    have hs1 : ∀ w, (Op.stringOp .add (X.extract 0 k) bs).run Tryz.prog w = .ok (.string S1) w := fun w => by
      rw [run_string_add_sum w _ _ (by simp; omega), hS1]
    have hs2 : ∀ w, (Op.stringOp .add S1 (X.extract (k + 1) X.size)).run Tryz.prog w = .ok (.string Y) w := fun w => by
      rw [run_string_add_sum w _ _ (by simp; omega), hY]
    clear hS1 hY hbs1 hbs
    go_upto_region 11 with (fail)
    go_quiet (fail)
    clear hs1 hs2
    generalize hwq : World.drewN W3 _ = W4
    replace HB : Hid (Below w.heap.size w W4) := by rw [← hwq]; exact below_drewN_sp HB.out _
    clear hwq
    go_wp2_with fail
    refine (awake_any _ (HR.out.below HB.out)).mono ?_
    rintro e wa ⟨rfl, hba⟩
    replace HB := Lib.hid (HB.out.trans (hba.mono HB.out.size))
    clear hba
    go_wp2_with fail
    refine (decodes_t Y _ HYS.out (HR.out.below HB.out)).mono ?_
    rintro e wb ⟨rfl, hbb⟩
    replace HB := Lib.hid (HB.out.trans (hbb.mono HB.out.size))
    clear hbb
    go_wp2_with fail
    refine (decodes_t raw _ HRAW.out (HR.out.below HB.out)).mono ?_
    rintro e wc ⟨rfl, hbc⟩
    replace HB := Lib.hid (HB.out.trans (hbc.mono HB.out.size))
    clear hbc
    go_wp2_with fail
    refine (decodes_t R4 _ HR4.out (HR.out.below HB.out)).mono ?_
    rintro e wd ⟨rfl, hbd⟩
    replace HB := Lib.hid (HB.out.trans (hbd.mono HB.out.size))
    clear hbd
    go_wp2_with fail
    go_ret
    exact ⟨rfl, HB.out⟩
  · have HSS : Hid ((X.extract 0 k).size ≤ maxLen) := by unfold Hid maxLen; simp; omega
    go_wp2_with fail
    refine (awake_any _ (HR.out.below HB.out)).mono ?_
    rintro e wa ⟨rfl, hba⟩
    replace HB := Lib.hid (HB.out.trans (hba.mono HB.out.size))
    clear hba
    go_wp2_with fail
    refine (decodes_t (X.extract 0 k) _ HSS.out (HR.out.below HB.out)).mono ?_
    rintro e wb ⟨rfl, hbb⟩
    replace HB := Lib.hid (HB.out.trans (hbb.mono HB.out.size))
    clear hbb
    go_wp2_with fail
    refine (decodes_t raw _ HRAW.out (HR.out.below HB.out)).mono ?_
    rintro e wc ⟨rfl, hbc⟩
    replace HB := Lib.hid (HB.out.trans (hbc.mono HB.out.size))
    clear hbc
    go_wp2_with fail
    refine (decodes_t R4 _ HR4.out (HR.out.below HB.out)).mono ?_
    rintro e wd ⟨rfl, hbd⟩
    replace HB := Lib.hid (HB.out.trans (hbd.mono HB.out.size))
    clear hbd
    go_wp2_with fail
    go_ret
    exact ⟨rfl, HB.out⟩
  · obtain ⟨S1, hS1⟩ : ∃ S, X ++ bs = S := ⟨_, rfl⟩
    have HSS : Hid (S1.size ≤ maxLen) := by unfold Hid maxLen; rw [← hS1, ByteArray.size_append]; omega
    have hs1 : ∀ w, (Op.stringOp .add X bs).run Tryz.prog w = .ok (.string S1) w := fun w => by
      rw [run_string_add_sum w _ _ (by omega), hS1]
    go_wp2_with fail
    refine (awake_any _ (HR.out.below HB.out)).mono ?_
    rintro e wa ⟨rfl, hba⟩
    replace HB := Lib.hid (HB.out.trans (hba.mono HB.out.size))
    clear hba
    go_wp2_with fail
    refine (decodes_t S1 _ HSS.out (HR.out.below HB.out)).mono ?_
    rintro e wb ⟨rfl, hbb⟩
    replace HB := Lib.hid (HB.out.trans (hbb.mono HB.out.size))
    clear hbb
    go_wp2_with fail
    refine (decodes_t raw _ HRAW.out (HR.out.below HB.out)).mono ?_
    rintro e wc ⟨rfl, hbc⟩
    replace HB := Lib.hid (HB.out.trans (hbc.mono HB.out.size))
    clear hbc
    go_wp2_with fail
    refine (decodes_t R4 _ HR4.out (HR.out.below HB.out)).mono ?_
    rintro e wd ⟨rfl, hbd⟩
    replace HB := Lib.hid (HB.out.trans (hbd.mono HB.out.size))
    clear hbd
    go_wp2_with fail
    go_ret
    exact ⟨rfl, HB.out⟩
  · clear hk1 hk2 hk3
    go_wp2_with fail
    refine (tables_any p cap zs _ (HI.out.below HB.out) HL.out).mono ?_
    rintro e w4 ⟨x1, T1, rfl, ht1, hm1, hc1, hb4⟩
    replace HB := Lib.hid (HB.out.trans (hb4.mono HB.out.size))
    clear hb4
    go_wp2_with fail
    refine (other_any x1 T1 256 at' v how _ ht1 (made_few4 hm1) (by omega)).mono ?_
    rintro e w5 ⟨x2, T2, rfl, ht2, hf2, hc2, hb5⟩
    replace HB := Lib.hid (HB.out.trans (hb5.mono HB.out.size))
    clear hb5
    obtain ⟨X2, er2, hX2⟩ : ∃ X er, Hid (encT T2 = (X, er)) := ⟨_, _, rfl⟩
    go_wp2_with fail
    refine (rencode_any x2 T2 X2 er2 _ ht2 (hc2 hc1) hX2).mono ?_
    rintro e w6 ⟨rfl, hb6⟩
    replace HB := Lib.hid (HB.out.trans (hb6.mono HB.out.size))
    clear hb6
    clear ht1 hm1 hc1 ht2 hf2 hc2
    by_cases hem : X2 = ByteArray.empty
    · have hee : (X2.toList == []) = true := by rw [empty_eq]; exact decide_eq_true hem
      have HSZ : Hid (4 ≤ X.size ∧ X.size ≤ 32768) := by unfold Hid; rw [HN.out]; omega
      clear hem hnX
      have hsz := HSZ.out
      obtain ⟨m, hm⟩ : ∃ m : Nat, (max 4 (X.size - 5)) = m := ⟨_, rfl⟩
      have hm4 : 4 ≤ m := by omega
      have hms : m ≤ X.size := by omega
      have hw5 : IntKind.i64.wrap ((X.size : Int) - 5) = (X.size : Int) - 5 := IntWalk.i64_in _ (by omega)
      have hmx : max (4 : Int) ((X.size : Int) - 5) = (m : Int) := by omega
      have hmx2 : (if (4 : Int) < (X.size : Int) - 5 then (X.size : Int) - 5 else 4) = (m : Int) := by split <;> omega
      obtain ⟨S1, hS1⟩ : ∃ S, sigB ++ X.extract 4 m = S := ⟨_, rfl⟩
      have hx1 : (X.extract 4 m).size ≤ 32768 := by simp; omega
      have h4s : sigB.size = 4 := rfl
      have hS1s : S1.size ≤ 40000 := by rw [← hS1, ByteArray.size_append]; omega
      have hs1 : ∀ w, (Op.stringOp .add ⟨#[78, 68, 84, 49]⟩ (X.extract 4 m)).run Tryz.prog w = .ok (.string S1) w := fun w => by
        have := run_string_add_sum (P := Tryz.prog) w sigB (X.extract 4 m) (by omega)
        rw [hS1] at this
        exact this
      clear hS1 hx1 h4s
      obtain ⟨Y, hY⟩ : ∃ Y, Hid (sumS S1 = Y) := ⟨_, rfl⟩
      have hYb := sumS_bd S1
      rw [hY.out] at hYb
      obtain ⟨X3, hX3⟩ : ∃ X, Hid (S1 ++ putB Y = X) := ⟨_, rfl⟩
      have HX3 : Hid (X3.size ≤ maxLen) := by
        unfold Hid
        rw [← hX3.out, ByteArray.size_append]
        have := (putB_size Y).2
        unfold maxLen
        omega
      go_wp2_with fail
      refine (rsum_any S1 Y _ (by unfold maxLen; omega) hY).mono ?_
      rintro e w7 ⟨rfl, rfl⟩
      clear hs1 hw5 hmx hmx2 hsz hm hm4 hms
      go_wp2_with fail
      refine (rputInt_any S1 X3 Y _ (by omega) (by unfold IsI; omega) hX3).mono ?_
      rintro e w8 ⟨rfl, hb8⟩
      replace HB := Lib.hid (HB.out.trans (hb8.mono HB.out.size))
      clear hb8
      go_wp2_with fail
      refine (awake_any _ (HR.out.below HB.out)).mono ?_
      rintro e wa ⟨rfl, hba⟩
      replace HB := Lib.hid (HB.out.trans (hba.mono HB.out.size))
      clear hba
      go_wp2_with fail
      refine (decodes_t X3 _ HX3.out (HR.out.below HB.out)).mono ?_
      rintro e wb ⟨rfl, hbb⟩
      replace HB := Lib.hid (HB.out.trans (hbb.mono HB.out.size))
      clear hbb
      go_wp2_with fail
      refine (decodes_t raw _ HRAW.out (HR.out.below HB.out)).mono ?_
      rintro e wc ⟨rfl, hbc⟩
      replace HB := Lib.hid (HB.out.trans (hbc.mono HB.out.size))
      clear hbc
      go_wp2_with fail
      refine (decodes_t R4 _ HR4.out (HR.out.below HB.out)).mono ?_
      rintro e wd ⟨rfl, hbd⟩
      replace HB := Lib.hid (HB.out.trans (hbd.mono HB.out.size))
      clear hbd
      go_wp2_with fail
      go_ret
      exact ⟨rfl, HB.out⟩
    · have hee : (X2.toList == []) = false := by rw [empty_eq]; exact decide_eq_false hem
      have HSZ : Hid (4 ≤ X2.size ∧ X2.size ≤ 32768) := (enc_size hX2.out).resolve_left hem
      clear hem
      have hsz := HSZ.out
      obtain ⟨m, hm⟩ : ∃ m : Nat, (max 4 (X2.size - 5)) = m := ⟨_, rfl⟩
      have hm4 : 4 ≤ m := by omega
      have hms : m ≤ X2.size := by omega
      have hw5 : IntKind.i64.wrap ((X2.size : Int) - 5) = (X2.size : Int) - 5 := IntWalk.i64_in _ (by omega)
      have hmx : max (4 : Int) ((X2.size : Int) - 5) = (m : Int) := by omega
      have hmx2 : (if (4 : Int) < (X2.size : Int) - 5 then (X2.size : Int) - 5 else 4) = (m : Int) := by split <;> omega
      obtain ⟨S1, hS1⟩ : ∃ S, sigB ++ X2.extract 4 m = S := ⟨_, rfl⟩
      have hx1 : (X2.extract 4 m).size ≤ 32768 := by simp; omega
      have h4s : sigB.size = 4 := rfl
      have hS1s : S1.size ≤ 40000 := by rw [← hS1, ByteArray.size_append]; omega
      have hs1 : ∀ w, (Op.stringOp .add ⟨#[78, 68, 84, 49]⟩ (X2.extract 4 m)).run Tryz.prog w = .ok (.string S1) w := fun w => by
        have := run_string_add_sum (P := Tryz.prog) w sigB (X2.extract 4 m) (by omega)
        rw [hS1] at this
        exact this
      clear hS1 hx1 h4s
      obtain ⟨Y, hY⟩ : ∃ Y, Hid (sumS S1 = Y) := ⟨_, rfl⟩
      have hYb := sumS_bd S1
      rw [hY.out] at hYb
      obtain ⟨X3, hX3⟩ : ∃ X, Hid (S1 ++ putB Y = X) := ⟨_, rfl⟩
      have HX3 : Hid (X3.size ≤ maxLen) := by
        unfold Hid
        rw [← hX3.out, ByteArray.size_append]
        have := (putB_size Y).2
        unfold maxLen
        omega
      go_wp2_with fail
      refine (rsum_any S1 Y _ (by unfold maxLen; omega) hY).mono ?_
      rintro e w7 ⟨rfl, rfl⟩
      clear hs1 hw5 hmx hmx2 hsz hm hm4 hms
      go_wp2_with fail
      refine (rputInt_any S1 X3 Y _ (by omega) (by unfold IsI; omega) hX3).mono ?_
      rintro e w8 ⟨rfl, hb8⟩
      replace HB := Lib.hid (HB.out.trans (hb8.mono HB.out.size))
      clear hb8
      go_wp2_with fail
      refine (awake_any _ (HR.out.below HB.out)).mono ?_
      rintro e wa ⟨rfl, hba⟩
      replace HB := Lib.hid (HB.out.trans (hba.mono HB.out.size))
      clear hba
      go_wp2_with fail
      refine (decodes_t X3 _ HX3.out (HR.out.below HB.out)).mono ?_
      rintro e wb ⟨rfl, hbb⟩
      replace HB := Lib.hid (HB.out.trans (hbb.mono HB.out.size))
      clear hbb
      go_wp2_with fail
      refine (decodes_t raw _ HRAW.out (HR.out.below HB.out)).mono ?_
      rintro e wc ⟨rfl, hbc⟩
      replace HB := Lib.hid (HB.out.trans (hbc.mono HB.out.size))
      clear hbc
      go_wp2_with fail
      refine (decodes_t R4 _ HR4.out (HR.out.below HB.out)).mono ?_
      rintro e wd ⟨rfl, hbd⟩
      replace HB := Lib.hid (HB.out.trans (hbd.mono HB.out.size))
      clear hbd
      go_wp2_with fail
      go_ret
      exact ⟨rfl, HB.out⟩

end Go.Proofs.YtnnhcgflmhjakaaGreatDoor
