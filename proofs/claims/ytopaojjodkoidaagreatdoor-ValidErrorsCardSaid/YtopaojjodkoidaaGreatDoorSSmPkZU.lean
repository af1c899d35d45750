/- The references of compose: pair, second, Pair, Second (genCR -/
import Derived.Test.YtopaojjodkoidaaGreatDoorSSmPkZT
import Derived.Test.YtopaojjodkoidaaGreatDoorSSmDcmR
import Derived.Test.YtopaojjodkoidaaGreatDoorSSmTabRL
set_option linter.unusedSimpArgs false
set_option linter.unusedVariables false
namespace Go.Proofs.YtopaojjodkoidaaGreatDoor
open Go.RowKit
theorem rcomp_q (x : TV) (T : Tb) (f : Int) (B : Bool) (w : World) (hx : TabV w x T) (hc : checkT T = 0) (hB : Hid (compT T f = B)) :
 Calls Tryz.prog 77 #[x.agg, .int .i64 f] w (Gives (.bool B) w) := hB.out ▸ rcomp_at T (cmpH0 hc) (dec_short hc) 256 x f w (dec_dp hc f) hx
def pq (T : Tb) (a b : Int) (m : Mp) : Bool := decide (m.2 = [a, b]) && compT T m.1
theorem find_take_no {q : Mp → Bool} {l : List Mp} {k : Nat} (hk : k < l.length) (h : (l.take k).find? q = none) (hq : q (l.getD k mp0) = false) : (l.take (k + 1)).find? q = none := by
 rw [take_snoc_mp l k hk, List.find?_append, h]
 simp only [List.find?_cons, hq]
 rfl
theorem find_take_yes {q : Mp → Bool} {l : List Mp} {k : Nat} (hk : k < l.length) (h : (l.take k).find? q = none) (hq : q (l.getD k mp0) = true) : l.find? q = some (l.getD k mp0) := by
 have e : ((l.take (k + 1)) ++ l.drop (k + 1)).find? q = some (l.getD k mp0) := by
  rw [List.find?_append, take_snoc_mp l k hk, List.find?_append, h]
  simp only [List.find?_cons, hq]
  rfl
 rwa [List.take_append_drop] at e
theorem pq_no {T : Tb} {a b : Int} {k : Nat} (hk : k < T.dec.length) (h : (T.dec.take k).find? (pq T a b) = none) : (decide ((T.dec.getD k mp0).2 = [a, b]) && compT T (T.dec.getD k mp0).1) = false → (T.dec.take (k + 1)).find? (pq T a b) = none :=
 fun hq => find_take_no hk h hq
theorem pq_yes {T : Tb} {a b : Int} {k : Nat} (hk : k < T.dec.length) (h : (T.dec.take k).find? (pq T a b) = none) : (decide ((T.dec.getD k mp0).2 = [a, b]) && compT T (T.dec.getD k mp0).1) = true → wholeV T a b = ((T.dec.getD k mp0).1, true) := by
 intro hq
 have := find_take_yes (q := pq T a b) hk h hq
 unfold wholeV
 rw [show (fun m : Mp => decide (m.2 = [a, b]) && compT T m.1) = pq T a b from rfl, this]
theorem pq_end {T : Tb} {a b : Int} (h : T.dec.find? (pq T a b) = none) : wholeV T a b = (0, false) := by
 unfold wholeV
 rw [show (fun m : Mp => decide (m.2 = [a, b]) && compT T m.1) = pq T a b from rfl, h]
set_option maxRecDepth 100000 in
set_option maxHeartbeats 16000000 in
theorem rpair0_at (x : TV) (T : Tb) (a b p : Int) (o : Bool) (w : World) (hx : TabV w x T) (hc : checkT T = 0) (hp : Hid (pairT0 T a b = (p, o))) :
 Calls Tryz.prog 50 #[x.agg, .int .i64 a, .int .i64 b] w (Gives (.tuple #[.int .i64 p, .bool o]) w) := by
 obtain ⟨⟨xh, oh⟩, hh⟩ : ∃ y, Hid (compS a b = y) := ⟨_, rfl⟩
 obtain ⟨a0, a1, a2, a3, a4, a5, a6, a7, a8, a9, a10, a11⟩ := x
 obtain ⟨pm, cm, hm, hmin, hml⟩ := hx.dec
 obtain ⟨n, hn⟩ : ∃ n, T.dec.length = n := ⟨_, rfl⟩
 rw [hn] at hm hml
 simp only at hm
 subst hm
 have hnle : n ≤ 256 := by rw [← hn]; exact (cmpH0 hc).len
 have HE := Lib.hid (Env.new hx)
 have HV := Lib.hid hc
 have HN := Lib.hid hn
 have HMI := Lib.hid hmin
 clear hx hn hmin hc
 simp only [TV.agg]
 go_enter Tryz.func50, Tryz.ntmps50
 go_wp2_with fail
 refine (rhcomp_at a b xh oh _ hh).mono ?_
 rintro e w1 ⟨rfl, rfl⟩
 cases oh with
 | true =>
  have HP := hp.out
  rw [wholeV_han T hh.out] at HP
  simp only [Prod.mk.injEq] at HP
  obtain ⟨rfl, rfl⟩ := HP
  go_wp2
  go_ret2
  exact ⟨rfl, HE.out.bel⟩
 | false =>
  have HP : Hid (wholeV T a b = (p, o)) := by unfold Hid; rw [← wholeV_map T hh.out]; exact hp.out
  obtain ⟨⟨k0, k1, k2, k3, k4, k5⟩, ⟨k6, k7, k8, k9, k10, k11⟩⟩ := HE.out.box
  go_wp2
  go_loopw [23] (fun i wr => ∃ k : Nat, k ≤ n ∧ i = .int .i64 k ∧ Hid ((T.dec.take k).find? (pq T a b) = none) ∧ Hid (Env w ⟨a0, a1, a2, a3, a4, a5, a6, a7, a8, .slice pm n cm, a10, a11⟩ T wr)) (fun i _ => n - (intOf i).toNat)
  case atStart => exact ⟨0, Nat.zero_le _, rfl, rfl, HE⟩
  case round =>
   obtain ⟨k, hk, rfl, hq0, he⟩ := hrel
   clear k0 k1 k2 k3 k4 k5 k6 k7 k8 k9 k10 k11
   by_cases hlt : k < n
   ·have hkl : k < T.dec.length := by rw [HN.out]; exact hlt
    obtain ⟨b3, off, v, rfl, hc1, hc2, qa, cq, rfl, hi2, hm2⟩ := (HMI.out.below he.out.bel) k hkl
    have HNO := Lib.hid (pq_no (T := T) (a := a) (b := b) hkl hq0.out)
    have HYE := Lib.hid (pq_yes (T := T) (a := a) (b := b) hkl hq0.out)
    obtain ⟨⟨f, y⟩, hfy⟩ : ∃ s, T.dec.getD k mp0 = s := ⟨_, rfl⟩
    rw [hfy] at hc1 hc2 hi2 hm2 HNO HYE
    simp only at hc1 hc2 hi2 hm2 HNO HYE
    obtain ⟨m, hm3⟩ : ∃ m, y.length = m := ⟨_, rfl⟩
    have HEb := Lib.hid (he.out.step ((Below.refl wr.heap.size wr).alloc (Nat.le_refl _) (.cells #[.int .i64 f, .slice qa m cq] 47)))
    have HY1 := Lib.hid (RowIn.alloc hi2 (.cells #[.int .i64 f, .slice qa m cq] 47))
    rw [hm3] at hc2 hm2
    have HM3 := Lib.hid hm3
    clear hfy hi2 hm3 he
    by_cases hm : m = 2
    ·subst hm
     obtain ⟨y0, y1, rfl⟩ : ∃ y0 y1, y = [y0, y1] := by
      match y, HM3.out with
      | [y0, y1], _ => exact ⟨y0, y1, rfl⟩
     obtain ⟨be, offe, rfl, s0⟩ := HY1.out 0 (by simp)
     obtain ⟨be', offe', ee, s1⟩ := HY1.out 1 (by simp)
     injection ee with ee
     injection ee with ee1 ee2
     subst ee1; subst ee2
     simp only [List.getD_cons_zero, List.getD_cons_succ, Nat.add_zero] at s0 s1
     obtain ⟨C, hC⟩ : ∃ C, Hid (compT T f = C) := ⟨_, rfl⟩
     simp only [hC.out] at HNO HYE
     by_cases h1 : y0 = a
     ·have d1 : (y0 == a) = true := by simp [h1]
      by_cases h2 : y1 = b
      ·have d2 : (y1 == b) = true := by simp [h2]
       obtain ⟨⟨k0, k1, k2, k3, k4, k5⟩, ⟨k6, k7, k8, k9, k10, k11⟩⟩ := HEb.out.box.load
       go_wp2_with fail
       refine (rcomp_q _ T f C _ HEb.out.tab HV.out hC).mono ?_
       rintro e w2 ⟨rfl, hb⟩
       have HEX := Lib.hid (HEb.out.step hb)
       have hfc : w2.cell? ⟨wr.heap.size, 0, none⟩ = some (.int .i64 f) := (hb.cell (p := ⟨wr.heap.size, 0, none⟩) (by simp)).trans (by simp [World.cell?_alloc_new])
       clear hb k0 k1 k2 k3 k4 k5 k6 k7 k8 k9 k10 k11
       cases C with
       | true =>
        have HPP := HP.out
        rw [HYE.out (by rw [h1, h2]; simp)] at HPP
        simp only [Prod.mk.injEq] at HPP
        obtain ⟨rfl, rfl⟩ := HPP
        clear h1 h2 HYE HNO
        go_wp2
        go_ret2
        exact ⟨rfl, HEX.out.bel⟩
       | false =>
        have HQ := Lib.hid (HNO.out (by simp))
        clear h1 h2 HYE HNO
        go_wp2
        go_roundw
        case rel => exact ⟨k + 1, by omega, by go_num, HQ, HEX⟩
        case measure => simp [intOf]; omega
      ·have d2 : (y1 == b) = false := by simp [h2]
       have HQ := Lib.hid (HNO.out (by simp [h2]))
       have HEX := HEb
       clear h1 h2 HYE HNO
       go_wp2
       go_roundw
       case rel => exact ⟨k + 1, by omega, by go_num, HQ, HEX⟩
       case measure => simp [intOf]; omega
     ·have d1 : (y0 == a) = false := by simp [h1]
      have HQ := Lib.hid (HNO.out (by simp [h1]))
      have HEX := HEb
      clear h1 HYE HNO
      go_wp2
      go_roundw
      case rel => exact ⟨k + 1, by omega, by go_num, HQ, HEX⟩
      case measure => simp [intOf]; omega
    ·have dm : ((m : Int) == 2) = false := by simp; omega
     have HQ := Lib.hid (HNO.out (by
      have : y ≠ [a, b] := fun e => by have := HM3.out; rw [e] at this; simp at this; omega
      simp [this]))
     have HEX := HEb
     clear HYE HNO
     go_wp2
     go_roundw
     case rel => exact ⟨k + 1, by omega, by go_num, HQ, HEX⟩
     case measure => simp [intOf]; omega
   ·obtain rfl : k = n := by omega
    have HPP := HP.out
    have hq := hq0.out
    rw [List.take_of_length_le (Nat.le_of_eq HN.out)] at hq
    rw [pq_end hq] at HPP
    simp only [Prod.mk.injEq] at HPP
    obtain ⟨rfl, rfl⟩ := HPP
    have HBE : Hid (Below w.heap.size w wr) := he.out.bel
    clear hq he
    go_wp2
    go_ret2
    exact ⟨rfl, HBE.out⟩
theorem Cst.app {T : Tb} {d O : List Int} {k : Nat} {st c : Int} (h : Cst T d k st O) (hk : k < d.length) (he : d.getD k 0 = c) (hs : scaB c = true) (hp : resO T O st c = none) : ∃ st', Cst T d (k + 1) st' (O ++ [c]) := by
 by_cases h0 : clsT T c = 0
 ·exact ⟨_, h.zero hk he hs hp h0⟩
 ·exact ⟨_, h.mark hk he hs hp h0⟩
def NoZ (T : Tb) (O : List Int) (j : Int) : Prop := ∀ i : Nat, j < i → i < O.length → clsT T (O.getD i 0) ≠ 0
theorem NoZ.start (T : Tb) (O : List Int) : NoZ T O ((O.length : Int) - 1) := fun i h1 h2 => by omega
theorem NoZ.down {T : Tb} {O : List Int} {a : Nat} (h : NoZ T O (a : Int)) (hz : clsT T (O.getD a 0) ≠ 0) : NoZ T O ((a : Int) - 1) := by
 intro i h1 h2
 by_cases e : i = a
 ·rw [e]; exact hz
 ·exact h i (by omega) h2
set_option maxRecDepth 100000 in
set_option maxHeartbeats 16000000 in
theorem rnfc_at (x : TV) (T : Tb) (p : Option Addr) (cap : Nat) (zs : List Int) (E : Int) (L : List Int) (w : World) (hx : TabV w x T) (hcap : CapOf x) (hin : IntsIn w p zs) (hl : zs.length ≤ 17592186043904)
 (hE : Hid (nfdE T zs = E)) (hL : Hid (nfcL T zs = L)) :
 Calls Tryz.prog 18 #[x.agg, .slice p zs.length cap] w (LRet L E w) := by
 obtain ⟨D, hD⟩ : ∃ D, Hid (nfdL T zs = D) := ⟨_, rfl⟩
 have HE := Lib.hid (Env.new hx)
 have HI := Lib.hid hin
 have hnf := fun W (h1 : TabV W x T) h2 => rnfd_at x T p cap zs E D W h1 hcap h2 hl hE hD
 obtain ⟨n, hn⟩ : ∃ n, zs.length = n := ⟨_, rfl⟩
 rw [hn] at hl hnf ⊢
 have HNF := Lib.hid hnf
 clear hx hin hcap hn hnf
 simp only [TV.agg]
 go_enter Tryz.func18, Tryz.ntmps18
 obtain ⟨⟨k0, k1, k2, k3, k4, k5⟩, ⟨k6, k7, k8, k9, k10, k11⟩⟩ := HE.out.box.load
 go_wp2_with fail
 refine (HNF.out _ HE.out.tab (HI.out.below HE.out.bel)).mono ?_
 rintro e w1 ⟨v1, rfl, ho1, hb⟩
 obtain ⟨pD, cD, rfl, hi1⟩ := ho1.inn
 replace HE := Lib.hid (HE.out.step hb)
 have HI1 := Lib.hid hi1
 obtain ⟨m, hm⟩ : ∃ m, D.length = m := ⟨_, rfl⟩
 have hm4 : m ≤ 4096 := by rw [← hm, ← hD.out]; exact nfdL_len T zs
 rw [hm]
 have HM := Lib.hid hm
 clear ho1 hb hi1 hm HNF k0 k1 k2 k3 k4 k5 k6 k7 k8 k9 k10 k11
 by_cases h0 : E = 0
 ·subst h0
  have HV : Hid (checkT T = 0) := nfd_check hE.out
  have HLL : Hid (nfcS T D = L) := by unfold Hid; rw [← hL.out, nfcL_ok hE.out, hD.out]
  have HFI : Hid (∀ y ∈ D, Fin1 T y) := by have := nfd_fin hE.out; rwa [hD.out] at this
  have HH := Lib.hid (cmpH0 HV.out)
  go_wp2
  go_loopw [8, 26] (fun u i wr => ∃ (k : Nat) (st : Int) (O : List Int), (k ≤ m ∧ i = .int .i64 k ∧ Hid (Cst T D k st O) ∧ Hid (Ints wr w1.heap.size u O) ∧ Hid (Below w1.heap.size w1 wr)) ∧ True) (fun _ i _ => m - (intOf i).toNat)
  case atStart =>
   exact ⟨0, -1, [], ⟨Nat.zero_le _, rfl, Cst.start T D, Ints.nil _ _, Below.refl _ _⟩, trivial⟩
  case round =>
   obtain ⟨k, st, O, ⟨hk, rfl, hcst, hown, hbel⟩, _⟩ := hrel
   have he := Lib.hid (HE.out.step hbel.out)
   by_cases hlt : k < m
   ·have hkl : k < D.length := by rw [HM.out]; exact hlt
    obtain ⟨b, off, rfl, hck⟩ := (HI1.out.below hbel.out) k hkl
    obtain ⟨c, hc⟩ : ∃ c, D.getD k 0 = c := ⟨_, rfl⟩
    rw [hc] at hck
    have HFC : Hid (Fin1 T c) := HFI.out c (by rw [← hc]; simp [hkl])
    have HC := Lib.hid hc
    obtain ⟨z, hz⟩ : ∃ z, Hid (clsT T c = z) := ⟨_, rfl⟩
    obtain ⟨pO, cO, rfl, hiO⟩ := hown.out.inn
    obtain ⟨no, hno⟩ : ∃ no, O.length = no := ⟨_, rfl⟩
    rw [hno] at hown ⊢
    have hno4 : no ≤ 4096 := by have := hcst.out.len; omega
    have HNO := Lib.hid hno
    have HNZ0 : Hid (NoZ T O ((no : Int) - 1)) := by have := NoZ.start T O; rwa [hno] at this
    generalize hwr : wr = WR at hown hbel he hck ⊢
    clear hc hno hiO hwr
    go_wp2
    go_loopw [11] (fun j wr => ∃ jj : Int, j = .int .i64 jj ∧ -1 ≤ jj ∧ jj < no ∧ Hid (NoZ T O jj) ∧ Hid (Ints wr w1.heap.size (.slice pO no cO) O) ∧ Hid (Below w1.heap.size w1 wr)) (fun j _ => (intOf j + 1).toNat)
    case atStart => exact ⟨(no : Int) - 1, by go_num, by omega, by omega, HNZ0, hown, hbel⟩
    case round =>
     obtain ⟨jj, rfl, hj1, hj2, hnz, hown2, hbel2⟩ := hrel
     have he2 := Lib.hid (HE.out.step hbel2.out)
     clear hown hbel he hck
     by_cases hj0 : jj < 0
     ·obtain rfl : jj = -1 := by omega
      obtain rfl : st = -1 := (hcst.out.last (.inl rfl) (by intro i h1 h2; exact hnz.out i h1 h2)).symm
      have HP : Hid (resO T O (-1) c = none) := resO_none (by omega)
      clear hj0 hj1 hj2
      go_upto_region 9 with (fail)
      go_quiet (fail)
      generalize hwq : World.drewN wr _ = W1
      have hq1 : Below wr.heap.size wr W1 := by rw [← hwq]; exact drew_ref _ _
      have HO1 := Lib.hid (hown2.out.below hq1)
      have HB1 := Lib.hid (hbel2.out.trans (hq1.mono hbel2.out.size))
      clear hwq hq1
      go_upto_region 11 with (fail)
      go_quiet (fail)
      generalize hwq : World.drewN W1 _ = W
      have hq1 : Below W1.heap.size W1 W := by rw [← hwq]; exact drew_ref _ _
      have HO := Lib.hid (HO1.out.below hq1)
      have HB := Lib.hid (HB1.out.trans (hq1.mono HB1.out.size))
      clear hwq hq1 HO1 HB1 hown2 hbel2 he2
      obtain ⟨st', hst'⟩ := hcst.out.app (by rw [HM.out]; exact hlt) HC.out HFC.out.1 HP.out
      have HC4 := Lib.hid hst'
      have HLI := Lib.hid (lit_ints W #[.int .i64 c] [c] 3 rfl)
      have HOA : Hid (Ints (W.alloc (.cells #[.int .i64 c] 3)) w1.heap.size (.slice pO no cO) O) := HO.out.alloc _
      have hsz : w1.heap.size ≤ (W.alloc (.cells #[.int .i64 c] 3)).heap.size := by have := HB.out.size; simp; omega
      have HBA := Lib.hid (HB.out.alloc HB.out.size (.cells #[.int .i64 c] 3))
      clear hst'
      go_wp2_with (at_builtin; (refine wpList_append_ints _ _ rfl rfl w1.heap.size (.slice pO no cO) O rfl HOA.out (some ⟨W.heap.size, 0, none⟩) 1 1 [c] rfl rfl HLI.out (by rw [HNO.out]; simp; omega) hsz ?_); intro v4 w4 ho4 hg4)
      have HB4 : Hid (Below w1.heap.size w1 w4) := below_appI HBA.out HOA.out (Nat.le_refl _) hg4
      have HO4 := Lib.hid ho4
      clear ho4 hg4 hsz
      go_wp2
      go_roundw
      case rel =>
       repeat apply Exists.intro
       exact ⟨⟨by omega, by go_num, HC4, HO4, HB4⟩, trivial⟩
      case measure => simp [intOf]; omega
     ·obtain ⟨a, rfl⟩ : ∃ a : Nat, jj = a := ⟨jj.toNat, by omega⟩
      have ha : a < no := by omega
      have ds : decide ((0 : Int) ≤ (a : Int)) = true := decide_eq_true (by omega)
      obtain ⟨go, cg, eg, hge, hglt, hgc, _⟩ := hown2.out.row (by rw [HNO.out]; omega)
      rw [HNO.out] at eg
      injection eg with eg1 _ eg2
      subst eg1 eg2
      obtain ⟨sO, hsO⟩ : ∃ s, O.getD a 0 = s := ⟨_, rfl⟩
      have hga := hgc a (by rw [HNO.out]; exact ha)
      rw [hsO] at hga
      have HGC := Lib.hid hgc
      obtain ⟨za, hza⟩ : ∃ z, Hid (clsT T sO = z) := ⟨_, rfl⟩
      have HSO := Lib.hid hsO
      clear hsO hgc hj0
      go_upto_region 9 with (fail)
      go_cut [43] (fun v wx => v = .bool (za != 0) ∧ Hid (Below wr.heap.size wr wx))
      case first =>
       have hed := he2.out.step (drew_one wr)
       have HED := Lib.hid hed
       clear hed
       go_region_held3 (fun w' => w'.cell? ⟨go, a, none⟩ = some (.int .i64 sO) ∧ boxF w.heap.size x w')
        (first
         | exact ⟨hga, HED.out.box.flat⟩
         | exact ⟨(hb3.cell (p := ⟨go, a, none⟩) (World.block_lt_of_cell? _ _ hga)).trans hga, (HED.out.step hb3).box.flat⟩)
        (first
         | (go_at_call 49; (with_reducible refine (rclass_at x T sO za _ HED.out.tab hza).mono ?_); rintro e w3 ⟨rfl, hb3⟩)
         | fail)
       all_goals
        have hf := (drew_one wr).trans (hb3.mono (drew_one wr).size)
        try (go_wp2_with fail)
        go_meet
        exact ⟨rfl, hf⟩
      case rest =>
       obtain ⟨rfl, hcb⟩ := hcut
       generalize wc = W1 at hcb ⊢
       have HO1 := Lib.hid (hown2.out.below hcb.out)
       have HB1 := Lib.hid (hbel2.out.trans (hcb.out.mono hbel2.out.size))
       have HG1 : Hid (∀ k, k < O.length → W1.cell? ⟨go, k, none⟩ = some (.int .i64 (O.getD k 0))) := fun k hk => (hcb.out.cell (p := ⟨go, k, none⟩) (World.block_lt_of_cell? _ _ (HGC.out k hk))).trans (HGC.out k hk)
       clear hga HGC hcb hown2 hbel2 he2
       by_cases hz0 : za = 0
       ·have dz : (za != 0) = false := by simp [hz0]
        have hst := hcst.out.last (j := (a : Int)) (.inr ⟨by omega, by rw [HNO.out]; omega, by rw [Int.toNat_natCast, HSO.out, hza.out]; exact hz0⟩) (by intro i h1 h2; exact hnz.out i h1 h2)
        subst hst
        clear hz0 hnz
        obtain ⟨q, hq⟩ : ∃ q, no = q + 1 := ⟨no - 1, by omega⟩
        have hq1 : (no : Int) - 1 = (q : Int) := by omega
        have hq2 : IntKind.i64.wrap ((no : Int) - 1) = (q : Int) := by rw [IntWalk.i64_in _ (by omega)]; omega
        have hq3 : IntKind.i64.wrap (q : Int) = (q : Int) := IntWalk.i64_in _ (by omega)
        obtain ⟨M, hM⟩ : ∃ M, O.drop (a + 1) = M := ⟨_, rfl⟩
        have hML : M.length = no - (a + 1) := by rw [← hM, List.length_drop, HNO.out]
        have HSC : Hid (scaB sO = true) := hcst.out.sca sO (by rw [← HSO.out]; have : a < O.length := by rw [HNO.out]; exact ha
                                                               simp [this])
        have HMC : Hid (unbl T M c → resO T O (a : Int) c = pairO T sO c) := fun h => by
         have := resO_open (T := T) (O := O) (st := (a : Int)) (c := c) (by omega) (by rw [Int.toNat_natCast, hM]; exact h)
         rw [this, Int.toNat_natCast, HSO.out]
        have HMN : Hid (¬ unbl T M c → resO T O (a : Int) c = none) := fun h => resO_blocked (by omega) (by rw [Int.toNat_natCast, hM]; exact h)
        obtain ⟨oq, hoq⟩ : ∃ s, O.getD q 0 = s := ⟨_, rfl⟩
        obtain ⟨zq, hzq⟩ : ∃ z, Hid (clsT T oq = z) := ⟨_, rfl⟩
        have hMq : a < q → M ≠ [] ∧ M.getD (M.length - 1) 0 = oq := fun h => by
         refine ⟨fun e => by rw [e] at hML; simp at hML; omega, ?_⟩
         rw [hML, ← hM, ← hoq]
         simp only [List.getD_eq_getElem?_getD, List.getElem?_drop]
         congr 2
         omega
        obtain ⟨Bk, hBk⟩ : ∃ Bk, Hid (decide (a < q ∧ z ≤ zq) = Bk) := ⟨_, rfl⟩
        have HBU : Hid (Bk = false → unbl T M c) := fun h => by
         have hb := hBk.out
         rw [h, decide_eq_false_iff_not] at hb
         rw [unbl_iff, hz.out]
         by_cases e : a < q
         ·right
          rw [(hMq e).2, hzq.out]
          by_cases e2 : z ≤ zq
          ·exact absurd ⟨e, e2⟩ hb
          ·omega
         ·left
          exact List.eq_nil_of_length_eq_zero (by omega)
        have HBN : Hid (Bk = true → ¬ unbl T M c) := fun h => by
         have hb := hBk.out
         rw [h, decide_eq_true_eq] at hb
         rw [unbl_iff, hz.out]
         intro e
         rcases e with e | e
         ·exact (hMq hb.1).1 e
         ·rw [(hMq hb.1).2, hzq.out] at e
          omega
        have hgq := HG1.out q (by rw [HNO.out]; omega)
        rw [hoq] at hgq
        have HE1 := Lib.hid (HE.out.step HB1.out)
        have hqlt : (q : Int) < (no : Int) := by omega
        have hai : (a : Int) < (no : Int) := by omega
        have hq0 : (0 : Int) ≤ (q : Int) := by omega
        have HQN := Lib.hid hq
        clear hM hML hMq hoq hq
        go_upto_region 11 with (fail)
        go_cut [12] (fun v wx => v = .bool Bk ∧ Hid (Below W1.heap.size W1 wx))
        case first =>
         have hed := HE1.out.step (drew_one W1)
         have HED := Lib.hid hed
         clear hed
         by_cases haq : a < q
         ·have da : decide ((a : Int) < (q : Int)) = true := decide_eq_true (by omega)
          have HBK : Hid (decide (z ≤ zq) = Bk) := by unfold Hid; rw [← hBk.out]; simp [haq]
          go_region_held3 (fun w' => w'.cell? ⟨go, q, none⟩ = some (.int .i64 oq) ∧ boxF w.heap.size x w')
           (first
            | exact ⟨hgq, HED.out.box.flat⟩
            | exact ⟨(hb3.cell (p := ⟨go, q, none⟩) (World.block_lt_of_cell? _ _ hgq)).trans hgq, (HED.out.step hb3).box.flat⟩
            | exact ⟨(hb4.cell (p := ⟨go, q, none⟩) (World.block_lt_of_cell? _ _ ((hb3.cell (p := ⟨go, q, none⟩) (World.block_lt_of_cell? _ _ hgq)).trans hgq))).trans ((hb3.cell (p := ⟨go, q, none⟩) (World.block_lt_of_cell? _ _ hgq)).trans hgq), ((HED.out.step hb3).step hb4).box.flat⟩)
           (first
            | (go_at_call 49; (with_reducible refine (rclass_at x T oq zq _ HED.out.tab hzq).mono ?_); rintro e w3 ⟨rfl, hb3⟩)
            | (go_at_call 49; (with_reducible refine (rclass_at x T c z _ (HED.out.step hb3).tab hz).mono ?_); rintro e w4 ⟨rfl, hb4⟩)
            | fail)
          all_goals
           have hf := (drew_one W1).trans ((hb3.trans (hb4.mono hb3.size)).mono (drew_one W1).size)
           try (go_wp2_with fail)
           go_meet
           exact ⟨by rw [← HBK.out]; rfl, hf⟩
         ·have HBK : Hid (Bk = false) := by unfold Hid; rw [← hBk.out]; simp [haq]
          obtain rfl : a = q := by omega
          have da : decide ((a : Int) < (a : Int)) = false := decide_eq_false (by omega)
          have d8 : decide ((a : Int) < 0) = false := decide_eq_false (by omega)
          have d9 : ¬ ((a : Int) < 0) := by omega
          clear haq ha hai hq0 hqlt
          go_quiet (fail)
          try (go_wp2_with fail)
          go_meet
          exact ⟨by rw [HBK.out], drew_ref W1 _⟩
        case rest =>
         obtain ⟨rfl, hcb⟩ := hcut
         generalize wc = W at hcb ⊢
         have HEW := Lib.hid (HE1.out.step hcb.out)
         have HO := Lib.hid (HO1.out.below hcb.out)
         have HB := Lib.hid (HB1.out.trans (hcb.out.mono HB1.out.size))
         have hga2 : W.cell? ⟨go, a, none⟩ = some (.int .i64 sO) := by
          have h1 := HG1.out a (by rw [HNO.out]; exact ha)
          rw [HSO.out] at h1
          exact (hcb.out.cell (p := ⟨go, a, none⟩) (World.block_lt_of_cell? _ _ h1)).trans h1
         clear hq1 hq2 hq3 hgq HE1 HG1 hBk hzq
         cases Bk with
         | true =>
          have HP : Hid (resO T O (a : Int) c = none) := HMN.out (HBN.out rfl)
          clear HBU HBN HMC HMN hga2
          obtain ⟨st', hst'⟩ := hcst.out.app (by rw [HM.out]; exact hlt) HC.out HFC.out.1 HP.out
          have HC4 := Lib.hid hst'
          have HLI := Lib.hid (lit_ints W #[.int .i64 c] [c] 3 rfl)
          have HOA : Hid (Ints (W.alloc (.cells #[.int .i64 c] 3)) w1.heap.size (.slice (some ⟨go, 0, none⟩) no cO) O) := HO.out.alloc _
          have hsz : w1.heap.size ≤ (W.alloc (.cells #[.int .i64 c] 3)).heap.size := by have := HB.out.size; simp; omega
          have HBA := Lib.hid (HB.out.alloc HB.out.size (.cells #[.int .i64 c] 3))
          clear hst'
          go_wp2_with (at_builtin; (refine wpList_append_ints _ _ rfl rfl w1.heap.size (.slice (some ⟨go, 0, none⟩) no cO) O rfl HOA.out (some ⟨W.heap.size, 0, none⟩) 1 1 [c] rfl rfl HLI.out (by rw [HNO.out]; simp; omega) hsz ?_); intro v4 w4 ho4 hg4)
          have HB4 : Hid (Below w1.heap.size w1 w4) := below_appI HBA.out HOA.out (Nat.le_refl _) hg4
          have HO4 := Lib.hid ho4
          clear ho4 hg4 hsz
          go_wp2
          go_roundw
          case rel =>
           repeat apply Exists.intro
           exact ⟨⟨by omega, by go_num, HC4, HO4, HB4⟩, trivial⟩
          case measure => simp [intOf]; omega
         | false =>
          have HPC : Hid (resO T O (a : Int) c = pairO T sO c) := HMC.out (HBU.out rfl)
          obtain ⟨⟨p', o⟩, hpo⟩ : ∃ y, Hid (pairT0 T sO c = y) := ⟨_, rfl⟩
          have hkp := fun W2 (h : TabV W2 x T) => rpair0_at x T sO c p' o W2 h HV.out hpo
          have HKP := Lib.hid hkp
          clear HBU HBN HMC HMN hkp
          go_upto_region 13 with (fail)
          go_cut [13, 14] (fun u v wx => u = .int .i64 p' ∧ v = .bool o ∧ Hid (Below W.heap.size W wx))
          case first =>
           have hed := HEW.out.step (drew_one W)
           have HED := Lib.hid hed
           clear hed
           go_region_held3 (fun w' => w'.cell? ⟨go, a, none⟩ = some (.int .i64 sO) ∧ boxF w.heap.size x w')
            (first
             | exact ⟨hga2, HED.out.box.flat⟩
             | exact ⟨(hb3.cell (p := ⟨go, a, none⟩) (World.block_lt_of_cell? _ _ hga2)).trans hga2, (HED.out.step hb3).box.flat⟩)
            (first
             | (go_at_call 50; (with_reducible refine (HKP.out _ HED.out.tab).mono ?_); rintro e w3 ⟨rfl, hb3⟩)
             | fail)
           all_goals
            have hf := (drew_one W).trans (hb3.mono (drew_one W).size)
            try (go_wp2_with fail)
            go_meet
            exact ⟨rfl, rfl, hf⟩
          case rest =>
           obtain ⟨rfl, rfl, hcb2⟩ := hcut
           generalize wc = W3 at hcb2 ⊢
           replace HO := Lib.hid (HO.out.below hcb2.out)
           replace HB := Lib.hid (HB.out.trans (hcb2.out.mono HB.out.size))
           have HGA3 : Hid (W3.cell? ⟨go, a, none⟩ = some (.int .i64 sO)) := (hcb2.out.cell (p := ⟨go, a, none⟩) (World.block_lt_of_cell? _ _ hga2)).trans hga2
           clear hga2
           cases o with
           | true =>
            have HP : Hid (resO T O (a : Int) c = some p') := by unfold Hid; rw [HPC.out]; exact pairT0_some hpo.out
            have HC4 : Hid (Cst T D (k + 1) (a : Int) (O.set a p')) := by
             have := hcst.out.comp HV.out (by rw [HM.out]; exact hlt) HC.out HFC.out HP.out
             rwa [Int.toNat_natCast] at this
            have hst := HO.out.set HNO.out a p'
            have HSET := Lib.hid hst
            have HB4 : Hid (Below w1.heap.size w1 (W3.setCell ⟨go, a, none⟩ (.int .i64 p'))) := HB.out.grown (grownBy_store W3 go a (.int .i64 p')) HB.out.size (fun k e => by injection e with e; omega)
            have hga3 := HGA3.out
            have hai : (a : Int) < (no : Int) := by omega
            obtain ⟨g5, c5, e5, _, _, _, hf5⟩ := HO.out.row (by rw [HNO.out]; omega)
            injection e5 with e5 _ _
            injection e5 with e5
            injection e5 with e5 _ _
            subst e5
            have hfr := hf5 a
            clear hst hf5
            go_wp2
            go_roundw
            case rel =>
             repeat apply Exists.intro
             exact ⟨⟨by omega, by go_num, HC4, HSET, HB4⟩, trivial⟩
            case measure => simp [intOf]; omega
           | false =>
            have HP : Hid (resO T O (a : Int) c = none) := by unfold Hid; rw [HPC.out]; exact (pairT0_none hpo.out).1
            obtain ⟨st', hst'⟩ := hcst.out.app (by rw [HM.out]; exact hlt) HC.out HFC.out.1 HP.out
            have HC4 := Lib.hid hst'
            have HLI := Lib.hid (lit_ints W3 #[.int .i64 c] [c] 3 rfl)
            have HOA : Hid (Ints (W3.alloc (.cells #[.int .i64 c] 3)) w1.heap.size (.slice (some ⟨go, 0, none⟩) no cO) O) := HO.out.alloc _
            have hsz : w1.heap.size ≤ (W3.alloc (.cells #[.int .i64 c] 3)).heap.size := by have := HB.out.size; simp; omega
            have HBA := Lib.hid (HB.out.alloc HB.out.size (.cells #[.int .i64 c] 3))
            clear hst'
            go_wp2_with (at_builtin; (refine wpList_append_ints _ _ rfl rfl w1.heap.size (.slice (some ⟨go, 0, none⟩) no cO) O rfl HOA.out (some ⟨W3.heap.size, 0, none⟩) 1 1 [c] rfl rfl HLI.out (by rw [HNO.out]; simp; omega) hsz ?_); intro v4 w4 ho4 hg4)
            have HB4 : Hid (Below w1.heap.size w1 w4) := below_appI HBA.out HOA.out (Nat.le_refl _) hg4
            have HO4 := Lib.hid ho4
            clear ho4 hg4 hsz
            go_wp2
            go_roundw
            case rel =>
             repeat apply Exists.intro
             exact ⟨⟨by omega, by go_num, HC4, HO4, HB4⟩, trivial⟩
            case measure => simp [intOf]; omega
       ·have dz : (za != 0) = true := by simp [hz0]
        have HNZ : Hid (NoZ T O ((a : Int) - 1)) := hnz.out.down (by rw [HSO.out, hza.out]; exact hz0)
        clear hz0
        go_wp2
        go_roundw
        case rel => exact ⟨(a : Int) - 1, by go_num, by omega, by omega, HNZ, HO1, HB1⟩
        case measure => simp [intOf]
   ·obtain rfl : k = m := by omega
    have HLO : Hid (O = L) := by
     have := hcst.out
     rw [← HM.out] at this
     unfold Hid
     rw [← HLL.out]; exact this.done.symm
    have HBZ : Hid (Below w.heap.size w wr) := he.out.bel
    have HSS : Hid (w.heap.size ≤ w1.heap.size) := HE.out.bel.size
    obtain ⟨pO, cO, rfl, hiO⟩ := hown.out.inn
    have HOW := Lib.hid (hown.out.mono HSS.out)
    clear hiO
    rw [HLO.out] at HOW ⊢
    go_wp2
    go_ret2
    exact ⟨_, rfl, HOW.out, HBZ.out⟩
 ·have d0 : (E != 0) = true := by simp [h0]
  have HLN : Hid (L = []) := by unfold Hid; rw [← hL.out]; exact nfcL_err (by rw [hE.out]; exact h0)
  clear h0
  go_wp2
  go_ret2
  rw [HLN.out]
  exact ⟨_, rfl, Ints.nil _ _, HE.out.bel⟩
set_option maxRecDepth 100000 in
set_option maxHeartbeats 4000000 in
theorem risnfc_at (x : TV) (T : Tb) (p : Option Addr) (cap : Nat) (zs : List Int) (B : Bool) (w : World) (hx : TabV w x T) (hcap : CapOf x) (hin : IntsIn w p zs) (hl : zs.length ≤ 17592186043904)
 (hB : Hid (isnC T zs = B)) :
 Calls Tryz.prog 43 #[x.agg, .slice p zs.length cap] w (Gives (.bool B) w) := by
 have HE := Lib.hid (Env.new hx)
 have HI := Lib.hid hin
 obtain ⟨E, hE⟩ : ∃ E, Hid (nfdE T zs = E) := ⟨_, rfl⟩
 obtain ⟨L, hL⟩ : ∃ L, Hid (nfcL T zs = L) := ⟨_, rfl⟩
 have hod := fun W (h1 : TabV W x T) h3 => rnfc_at x T p cap zs E L W h1 hcap h3 hl hE hL
 obtain ⟨n, hn⟩ : ∃ n, zs.length = n := ⟨_, rfl⟩
 rw [hn] at hl hod ⊢
 have HN := Lib.hid hn
 have HOD := Lib.hid hod
 clear hx hin hn hcap hod
 simp only [TV.agg]
 go_enter Tryz.func43, Tryz.ntmps43
 obtain ⟨⟨k0, k1, k2, k3, k4, k5⟩, ⟨k6, k7, k8, k9, k10, k11⟩⟩ := HE.out.box.load
 go_wp2_with fail
 refine (HOD.out _ HE.out.tab (HI.out.below HE.out.bel)).mono ?_
 rintro e w1 ⟨v1, rfl, ho1, hb1⟩
 replace HE := Lib.hid (HE.out.step hb1)
 have HO := Lib.hid ho1
 clear hb1 ho1 k0 k1 k2 k3 k4 k5 k6 k7 k8 k9 k10 k11
 by_cases h0 : E = 0
 ·subst h0
  have HLB : Hid ((L == zs) = B) := by unfold Hid; rw [← hB.out, isnC_ok hE.out, hL.out]
  have HSI : Hid (InV w1 v1 L) := HO.out.inV (by rw [← hL.out]; have := nfcL_len T zs; omega)
  have HZI : Hid (InV w1 (.slice p n cap) zs) := ⟨p, cap, by rw [HN.out], HI.out.below HE.out.bel, by rw [HN.out]; omega⟩
  go_wp2_with fail
  refine (rsame_at _ _ L zs B _ HSI.out HZI.out HLB).mono ?_
  rintro e w2 ⟨rfl, hb2⟩
  replace HE := Lib.hid (HE.out.step hb2)
  clear hb2
  go_wp2
  go_ret
  exact ⟨rfl, HE.out.bel⟩
 ·have d0 : (E == 0) = false := by simp [h0]
  have HBF : Hid (B = false) := by unfold Hid; rw [← hB.out]; exact isnC_err (by rw [hE.out]; exact h0)
  clear h0
  go_wp2
  go_ret
  exact ⟨by rw [HBF.out]; rfl, HE.out.bel⟩
end Go.Proofs.YtopaojjodkoidaaGreatDoor
