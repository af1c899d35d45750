/-
  puny: Decode.
-/
import Derived.Test.YtmnnpfohjffniaaPkZZD
import Derived.Test.YtmnnpfohjffniaaQPunEncA
set_option linter.unusedSimpArgs false
set_option linter.unusedVariables false
namespace Go.Proofs.Ytmnnpfohjffniaa
open Go.RowKit Go.Sort
set_option linter.unusedVariables false

/-- The block that make lays for c ints. -/
def pmadeInts (c : Nat) : Obj := .cells (madeCells (Value.cells (.int .i64 0)) (c * 1)) 3
theorem prun_make_ints (c : Nat) (hc : c ≤ 4194304) (w : World) :
    (Instr.makeSlice 22 (.int .i64 0) (.int .i64 (c : Int))).run Try.prog w = .ok (.slice (some ⟨w.heap.size, 0, none⟩) 0 c) (w.alloc (pmadeInts c)) := by
  obtain ⟨i0, hi, hz0, hz1, hz2⟩ := info_parts Try.info3
  have h := pun_make_rowN (P := Try.prog) 22 3 i0 _ Try.underlying22 hi hz0 .i64 .i64 0 c (Nat.zero_le _) (by rw [hz2]; omega) (by omega) w
  rw [hz1] at h
  exact h
theorem SRow.made (w : World) (c : Nat) : SRow (w.alloc (pmadeInts c)) w.heap.size c ([] : List Int).toArray :=
  ⟨_, heap_alloc_new w _, by rw [size_madeCells]; simp [Value.cells], Nat.zero_le _, fun i hi => by simp at hi⟩

/-- The bytes of a row of the call's own. -/
theorem OwnB.bytes {w : World} {B : Nat} {v : Value} {xs : List Int} (h : OwnB w B v xs) : ∃ g cap, v = .slice (some ⟨g, 0, none⟩) xs.length cap ∧ B ≤ g ∧ g < w.heap.size ∧ RowIn .u8 w (some ⟨g, 0, none⟩) xs := by
  obtain ⟨g, cap, cur, fz, rfl, hb, hg, hf, hn, hc, hs, ht⟩ := h
  refine ⟨g, cap, rfl, hb, (Array.getElem?_eq_some_iff.1 hg).1, fun k hk => ⟨g, 0, rfl, ?_⟩⟩
  rw [cell_of_row w g (0 + k) cur _ fz hg, Nat.zero_add]
  have e : (cur.toList.take xs.length)[k]? = (xs.map (Value.int .u8))[k]? := by rw [ht]
  rw [List.getElem?_take, if_pos hk] at e
  simpa [List.getD, List.getElem?_eq_getElem hk] using e

/-- A list and an error. -/
def RetDec (out : List Int) (er : Int) (w : World) (e : Ending) (w' : World) : Prop :=
  ∃ v, e = .returned (.tuple #[v, .int .i64 er]) ∧ Ints w' w.heap.size v out ∧ Below w.heap.size w w'

theorem RetDec.nil (er : Int) {w w' : World} (h : Below w.heap.size w w') : RetDec [] er w (.returned (.tuple #[.slice none 0 0, .int .i64 er])) w' := ⟨_, rfl, Ints.nil _ _, h⟩

theorem decP_long {L : List Int} (h : 2048 < L.length) : decP L = ([], 7) := by unfold decP; rw [if_pos h]
theorem decP_any {L : List Int} (h : L.length ≤ 2048) (h2 : ((L.take (hyS L)).any fun c => decide (127 < c)) = true) : decP L = ([], 12) := by unfold decP; rw [if_neg (by omega), if_pos h2]
theorem decP_go {L : List Int} (h : L.length ≤ 2048) (h2 : ((L.take (hyS L)).any fun c => decide (127 < c)) = false) : decP L = pdecL L.length (L.take (hyS L)) 128 0 72 true (L.drop (if hyS L = 0 then 0 else hyS L + 1)) := by unfold decP; rw [if_neg (by omega), if_neg (by rw [h2]; simp)]
theorem any_bad {P : List Int} {k : Nat} (hk : k < P.length) (h : basB (P.getD k 0) = false) : (P.any fun c => decide (127 < c)) = true := by
  rw [List.any_eq_true]
  refine ⟨P.getD k 0, by simp [hk], ?_⟩
  have := of_decide_eq_false (show decide (P.getD k 0 < 128) = false from h)
  exact decide_eq_true (by omega)
theorem any_ok {P : List Int} (h : ∀ k, k < P.length → basB (P.getD k 0) = true) : (P.any fun c => decide (127 < c)) = false := by
  rw [List.any_eq_false]
  intro c hc
  obtain ⟨k, hk, rfl⟩ := List.getElem_of_mem hc
  have h1 := h k hk
  rw [List.getD_eq_getElem?_getD, List.getElem?_eq_getElem hk, Option.getD_some] at h1
  have := of_decide_eq_true (show decide (P[k] < 128) = true from h1)
  simp; omega

/-- What is kept between two numbers: the state, the list. -/
structure DecSt (w0 w : World) (gs gl cap : Nat) (P : List Int) (n : Int) (i b : Nat) (later : Bool) : Prop where
  st : StB w gs n i P.length b later
  row : SRow w gl cap P.toArray
  bel : Below w0.heap.size w0 w
  gs0 : w0.heap.size ≤ gs
  gl0 : w0.heap.size ≤ gl
  ne : gs ≠ gl

theorem DecSt.drewN {w0 w : World} {gs gl cap : Nat} {P : List Int} {n : Int} {i b : Nat} {later : Bool} (h : DecSt w0 w gs gl cap P n i b later) (m : Nat) : DecSt w0 (w.drewN m) gs gl cap P n i b later :=
  ⟨h.st.drewN m, h.row.drewN m, below_drewN h.bel m, h.gs0, h.gl0, h.ne⟩

def slLen (v : Value) : Nat := match v with | .slice _ n _ => n | _ => 0

set_option maxRecDepth 100000 in
set_option maxHeartbeats 8000000 in
theorem pdecode_at (s : ByteArray) (out : List Int) (er : Int) (w : World) (hs : s.size ≤ 140737488355328) (hE : Hid (decP (nums s) = (out, er))) :
    Calls Try.prog 42 #[.string s] w (RetDec out er w) := by
  by_cases hbig : 2048 < s.size
  · have hE' := hE.out
    rw [decP_long (by rw [nums_length]; exact hbig)] at hE'
    injection hE' with e1 e2
    subst e1; subst e2
    clear hE
    go_enter Try.func42, Try.ntmps42
    go_wp2
    go_ret2
    exact RetDec.nil 7 (Below.refl _ _)
  have hsb : s.size ≤ 2048 := by omega
  obtain ⟨h, hh⟩ : ∃ h, hyS (nums s) = h := ⟨_, rfl⟩
  have HH := Lib.hid hh
  clear hbig hh
  go_enter Try.func42, Try.ntmps42
  go_wp2_with fail
  refine (cut_at s _ (by omega)).mono ?_
  rintro ex w1 ⟨B, G, rfl, hB, hG, q, hw1⟩
  have HB1 : Hid (Below w.heap.size w w1) := by rw [hw1]; exact below_drewN (Below.refl _ _) q
  rw [HH.out] at hB hG
  have hBl : B.size ≤ s.size := by
    rw [← nums_length, hB, ← nums_length]; simp; omega
  have HBn := Lib.hid hB
  have HGn := Lib.hid hG
  have hmk := prun_make_ints s.size (by omega)
  have HR2 := Lib.hid (SRow.made w1 s.size)
  have HB2 := Lib.hid (HB1.out.alloc HB1.out.size (pmadeInts s.size))
  have HZ2 : Hid ((w1.alloc (pmadeInts s.size)).heap.size = w1.heap.size + 1) := by unfold Hid; simp
  clear hB hG hw1
  go_upto_region 5 with (fail)
  obtain ⟨gl, hgl⟩ : ∃ gl, w1.heap.size = gl := ⟨_, rfl⟩
  have HGL0 : Hid (w.heap.size ≤ gl) := by unfold Hid; rw [← hgl]; exact HB1.out.size
  rw [hgl] at HR2 HZ2 ⊢
  generalize w1.alloc (pmadeInts s.size) = W2 at HR2 HB2 HZ2 ⊢
  obtain ⟨vb, W3, hcv, ho3, hb3⟩ := conv_bytes_own W2 B (by unfold maxLen; omega)
  obtain ⟨gb, cb, rfl, hgb, hgb2, hbin⟩ := ho3.bytes
  have HR3 : Hid (SRow W3 gl s.size ([] : List Int).toArray) := HR2.out.grown (below_grownBy hb3 none) (by simp)
  have HB3 := Lib.hid (HB2.out.trans (hb3.mono HB2.out.size))
  have HBI := Lib.hid hbin
  have hgbl : gl < gb := by have := HZ2.out; omega
  have HGB2 := Lib.hid hgb2
  clear ho3 hb3 hbin hgb hgb2 hmk
  rw [nums_length] at hcv
  obtain ⟨P, hP⟩ : ∃ P, nums B = P := ⟨_, rfl⟩
  obtain ⟨m, hm⟩ : ∃ m, B.size = m := ⟨_, rfl⟩
  have hPm : P.length = m := by rw [← hP, nums_length, hm]
  have HPM := Lib.hid hPm
  have HPB : Hid (∀ x ∈ P, 0 ≤ x ∧ x < 256) := by rw [← hP]; exact nums_bytes B
  rw [hP] at HBI HBn
  rw [hm] at hBl hcv
  clear hP hm hPm
  go_wp2
  go_loopw [6, 29] (fun vv u wr => ∃ k : Nat, u = .int .i64 k ∧ k ≤ m ∧ vv = .slice (some ⟨gl, 0, none⟩) k s.size ∧ Hid (∀ j, j < k → basB (P.getD j 0) = true) ∧ Hid (SRow wr gl s.size (P.take k).toArray) ∧ Hid (RowIn .u8 wr (some ⟨gb, 0, none⟩) P) ∧ Hid (gb < wr.heap.size) ∧ Hid (Below w.heap.size w wr)) (fun _ u _ => m - (intOf u).toNat)
  case atStart => exact ⟨0, rfl, Nat.zero_le _, rfl, fun j hj => by omega, HR3, HBI, HGB2, HB3⟩
  case round =>
    clear HR3 HB3 HBI HGB2 hcv HR2 HB2 HZ2
    obtain ⟨k, rfl, hk, rfl, hbs, hsr, hbi, hgb, hbe⟩ := hrel
    by_cases hlt : k < m
    · have hkP : k < P.length := by rw [HPM.out]; exact hlt
      obtain ⟨b1, o1, e1, hck⟩ := hbi.out k hkP
      cases e1
      rw [Nat.zero_add] at hck
      obtain ⟨y, hy⟩ : ∃ y, P.getD k 0 = y := ⟨_, rfl⟩
      rw [hy] at hck
      have hyb := HPB.out y (by rw [← hy]; simp [hkP])
      obtain ⟨hy0, hy1⟩ := hyb
      cases hbb : basB y with
      | false =>
        have HBB := Lib.hid hbb
        have hE' := hE.out
        rw [decP_any (by rw [nums_length]; exact hsb) (by rw [HH.out, ← HBn.out]; exact any_bad hkP (by rw [hy]; exact hbb))] at hE'
        injection hE' with e1 e2
        subst e1; subst e2
        clear hE hbb hy hkP
        go_wp2_with (go_at_call 43; refine (isbasic_at y false _ HBB).mono ?_; rintro e w5 ⟨rfl, rfl⟩)
        go_ret2
        exact RetDec.nil 12 hbe.out
      | true =>
        have HBB := Lib.hid hbb
        have HBS2 : Hid (∀ j, j < k + 1 → basB (P.getD j 0) = true) := fun j hj => by
          by_cases e : j = k
          · subst e; rw [hy]; exact hbb
          · exact hbs.out j (by omega)
        have htk : (P.take k).length = k := by simp; omega
        have hsrA := hsr.out.grown (World.grownBy_alloc _ (.cells #[.int .i64 y] 3) none) (by simp)
        obtain ⟨hpu, hsp, hfz⟩ := hsrA.push (by rw [htk]; omega) y
        rw [htk] at hpu hsp hfz
        rw [← hy, ← take_snoc_int P k hkP, hy] at hpu
        have HPU := Lib.hid hpu
        have HSP := Lib.hid hsp
        have HFZ := Lib.hid hfz
        have HSRC : Hid (Go.Src Try.prog 1 22 (.slice (some ⟨World.heap _ |>.size, 0, none⟩) 1 1) 1 [.int .i64 y] (World.alloc _ (.cells #[.int .i64 y] 3))) := Go.Src.ofSlice (World.alloc wr (.cells #[.int .i64 y] 3)) Try.underlying22 ⟨wr.heap.size, 0, none⟩ 1 1 [.int .i64 y] (by simp) (fun j u hj => by
          rw [Addr.add_lit]
          cases j with
          | zero => simp at hj; subst hj; simp [World.cell?_alloc_new]
          | succ j => simp at hj) (by simp [Value.oneCell'])
        have HBI2 : Hid (RowIn .u8 ((World.alloc wr (.cells #[.int .i64 y] 3)).setCells gl k [.int .i64 y]) (some ⟨gb, 0, none⟩) P) :=
          (hbi.out.alloc _).grown (grown_setCells gl _ _ _) (fun b off e => by cases e; omega)
        have HGB2 : Hid (gb < ((World.alloc wr (.cells #[.int .i64 y] 3)).setCells gl k [.int .i64 y]).heap.size) := by
          have h1 := hgb.out
          have h2 := (grown_setCells gl [.int .i64 y] k (World.alloc wr (.cells #[.int .i64 y] 3))).size
          simp only [World.size_alloc] at h2
          unfold Hid; omega
        have HBE2 : Hid (Below w.heap.size w ((World.alloc wr (.cells #[.int .i64 y] 3)).setCells gl k [.int .i64 y])) :=
          (hbe.out.alloc hbe.out.size _).grown (grown_setCells gl _ _ _) (by have := hbe.out.size; simp; omega) (by rintro j ⟨⟩; exact HGL0.out)
        clear hpu hsp hfz hsrA hy hbb hkP hsr hbi hgb hbe
        go_wp2_with (first
          | (go_at_call 43; refine (isbasic_at y true _ HBB).mono ?_; rintro e w5 ⟨rfl, rfl⟩)
          | (at_builtin; refine wpList_append_room1 _ rfl _ _ 22 22 rfl 3 _ _ Try.underlying22 Try.info3 gl 0 k s.size rfl _ rfl 1 [.int .i64 y] HSRC.out (by omega) HSP.out HFZ.out ?_))
        go_roundw
        case rel => exact ⟨k + 1, by go_num, by omega, rfl, HBS2, HPU, HBI2, HGB2, HBE2⟩
        case measure => simp [intOf]; omega
    · obtain rfl : k = m := by omega
      have HOKB : Hid ((P.any fun c => decide (127 < c)) = false) := any_ok (fun j hj => hbs.out j (by rw [HPM.out] at hj; exact hj))
      have HD0 : Hid (pdecL (nums s).length P 128 0 72 true (nums G) = (out, er)) := by
        have := hE.out
        rw [decP_go (by rw [nums_length]; exact hsb) (by rw [HH.out, ← HBn.out]; exact HOKB.out), HH.out, ← HBn.out, ← HGn.out] at this
        exact this
      have hsr2 := hsr.out
      rw [List.take_of_length_le (by rw [HPM.out]; exact Nat.le_refl _)] at hsr2
      have HSR := Lib.hid hsr2
      have HGL : Hid ((nums G).length + k ≤ s.size) := by
        unfold Hid; rw [HGn.out, ← HPM.out, HBn.out, List.length_drop, List.length_take, nums_length]
        split <;> omega
      clear hsr2 hE hbs hsr HOKB hbi hgb HPB HBn HGn HB1
      go_wp2_with fail
      refine (start_at k _).mono ?_
      rintro ex w6 ⟨rfl, hb6⟩
      have HSR6 := Lib.hid (HSR.out.grown (below_grownBy hb6 none) (by simp))
      have HB6 := Lib.hid (hbe.out.trans (hb6.mono hbe.out.size))
      have HNEW := Lib.hid (F5.new w6 (.int .i64 128) (.int .i64 0) (.int .i64 k) (.int .i64 72) (.bool false) 51)
      have HDS : Hid (DecSt w (w6.alloc (.cells #[.int .i64 128, .int .i64 0, .int .i64 k, .int .i64 72, .bool false] 51)) w6.heap.size gl s.size P 128 0 72 false) := by
        refine ⟨by unfold StB; rw [HPM.out]; exact HNEW.out, HSR6.out.grown (World.grownBy_alloc _ _ none) (by simp), HB6.out.alloc HB6.out.size _, HB6.out.size, HGL0.out, fun e => ?_⟩
        have := HSR6.out.lt
        omega
      clear hb6 HSR HNEW HSR6 HB6 hbe
      go_upto_region 13 with (fail)
      generalize w6.alloc (.cells #[.int .i64 128, .int .i64 0, .int .i64 k, .int .i64 72, .bool false] 51) = W7 at HDS ⊢
      generalize w6.heap.size = gs at HDS ⊢
      have hGL := HGL.out
      rw [nums_length] at hGL
      have hGs : G.size ≤ (nums s).length := by rw [nums_length]; omega
      go_wp2
      go_loopw [5, 6] (fun vs vv wx => ∃ (G' : ByteArray) (P' : List Int) (n : Int) (i b f pn : Nat) (later : Bool), vs = .string G' ∧ vv = .slice (some ⟨gl, 0, none⟩) pn s.size ∧ G'.size + pn ≤ s.size ∧ G'.size ≤ f ∧ 0 ≤ n ∧ n ≤ 1114111 ∧ i ≤ pn ∧ b ≤ 70368744177664 ∧ Hid (P'.length = pn) ∧ Hid (DecSt w wx gs gl s.size P' n i b later) ∧ Hid (pdecL f P' n i b (!later) (nums G') = (out, er))) (fun _ vv _ => s.size - slLen vv)
      case atStart => exact ⟨G, P, 128, 0, 72, (nums s).length, k, false, rfl, rfl, hGL, hGs, by omega, by omega, by omega, by omega, HPM, HDS, HD0⟩
      case round =>
        clear HDS HD0 HGL hGL hGs HPM
        obtain ⟨G', P', n, i, b, f, pn, later, rfl, rfl, hGp, hGf, hn0, hn1, hi, hb, hpn, hds, hde⟩ := hrel
        by_cases hG : 0 < G'.size
        · obtain ⟨f', rfl⟩ : ∃ f', f = f' + 1 := ⟨f - 1, by omega⟩
          obtain ⟨⟨v, mm, e⟩, hrd⟩ : ∃ y, rdN b (nums G') = y := ⟨_, rfl⟩
          have hne : nums G' ≠ [] := by
            intro e0
            have := nums_length G'
            rw [e0] at this
            simp at this; omega
          obtain ⟨st1, st2⟩ := pdecL_step (f := f') (P := P') (n := n) (i := i) (first := !later) hne hrd
          have HRD := Lib.hid hrd
          have c3 := hds.out.st.2.2.2.1
          clear hne hrd
          by_cases he : e = 0
          · subst he
            obtain ⟨m1, m2, hv, hst⟩ := st2 rfl
            rw [nums_length] at m2
            rw [hpn.out] at hst
            obtain ⟨C, hC⟩ : ∃ C, (v + i) / (pn + 1) = C := ⟨_, rfl⟩
            obtain ⟨J, hJ⟩ : ∃ J, (v + i) % (pn + 1) = J := ⟨_, rfl⟩
            obtain ⟨A, hA⟩ : ∃ A, adaptN v (pn + 1) (!later) = A := ⟨_, rfl⟩
            have hAb : A ≤ 2199023255588 := by rw [← hA]; exact adaptN_bd v _ _ (by omega)
            have hJp : J < pn + 1 := by rw [← hJ]; exact Nat.mod_lt _ (by omega)
            rw [hC, hJ, hA] at hst
            obtain ⟨c, hc⟩ : ∃ c : Int, n + (C : Int) = c := ⟨_, rfl⟩
            rw [hc] at hst
            have hc0 : 0 ≤ c := by omega
            have HDE : Hid ((if 1114111 < c then (([] : List Int), (8 : Int)) else if scpB c = false then ([], 12) else pdecL f' (putD P' c J) c (J + 1) A false (List.drop mm (nums G'))) = (out, er)) := by
              unfold Hid; rw [← hst]; exact hde.out
            have HC := Lib.hid hC
            have HJ := Lib.hid hJ
            have HA := Lib.hid hA
            have HCC := Lib.hid hc
            have HST0 : Hid (StB wr gs n i pn b later) := by unfold Hid; rw [← hpn.out]; exact hds.out.st
            clear st1 st2 hst hde hC hJ hA
            go_wp2_with fail
            refine (readnum_at G' b v mm 0 _ (by omega) hb HRD).mono ?_
            rintro ex w8 ⟨rfl, rfl⟩
            go_wp2_with fail
            refine (put_at gs n i pn b later v C J A _ HST0.out (by omega) hn0 (by omega) (by omega) hv HC HJ HA).mono ?_
            rintro ex w9 ⟨rfl, hs9, hg9⟩
            have HROW9 := Lib.hid (hds.out.row.grown hg9 (by intro e; cases e; exact hds.out.ne rfl))
            have HBEL9 := Lib.hid (hds.out.bel.grown hg9 hds.out.bel.size (by rintro j ⟨⟩; exact hds.out.gs0))
            have HGS9 := Lib.hid hds.out.gs0
            have HNE9 := Lib.hid hds.out.ne
            rw [hc] at hs9
            have HST9 := Lib.hid hs9
            clear hs9 hg9 hds c3 HST0
            rw [hc]
            clear hc
            by_cases hcm : 1114111 < c
            · have hE := HDE.out
              rw [if_pos hcm] at hE
              injection hE with e1 e2
              subst e1; subst e2
              clear HDE
              go_wp2
              go_ret2
              exact RetDec.nil 8 HBEL9.out
            · cases hsc : scpB c with
              | false =>
                have hE := HDE.out
                rw [if_neg hcm, if_pos hsc] at hE
                injection hE with e1 e2
                subst e1; subst e2
                have HSC := Lib.hid hsc
                clear HDE hsc
                go_wp2_with (go_at_call 30; refine (len_no c _ HSC.out).mono ?_; rintro ex wa ⟨rfl, rfl⟩)
                go_ret2
                exact RetDec.nil 12 HBEL9.out
              | true =>
                have HSC := Lib.hid hsc
                have HDE2 : Hid (pdecL f' (putD P' c J) c (J + 1) A (!true) (nums (G'.extract mm G'.size)) = (out, er)) := by
                  unfold Hid
                  rw [nums_extE]
                  have := HDE.out
                  rw [if_neg hcm, if_neg (by rw [hsc]; simp)] at this
                  exact this
                have HPL : Hid ((putD P' c J).length = pn + 1) := by unfold Hid; rw [putD_length (by rw [hpn.out]; omega), hpn.out]
                have HGE : Hid ((G'.extract mm G'.size).size = G'.size - mm) := by unfold Hid; simp
                clear hsc HDE
                go_wp2_with fail
                refine (len_yes c _ HSC.out).mono ?_
                rintro ex wa ⟨⟨z, hz1, hz4, rfl⟩, rfl⟩
                have d0 : ((z : Int) == 0) = false := by simp; omega
                go_wp2_with fail
                refine (insert_at gl s.size pn P' (putD P' c J) c J _ HROW9.out hpn (by omega) (by omega) (by omega) rfl).mono ?_
                rintro ex wb ⟨rfl, hrb, hgb⟩
                have HDS2 : Hid (DecSt w wb gs gl s.size (putD P' c J) c (J + 1) A true) := by
                  refine ⟨by rw [HPL.out]; exact F5.grown HST9.out hgb (by intro e; cases e; exact HNE9.out rfl), hrb, HBEL9.out.grown hgb HBEL9.out.size (by rintro j ⟨⟩; exact HGL0.out), HGS9.out, HGL0.out, HNE9.out⟩
                rw [HPL.out]
                clear hrb hgb HROW9 HBEL9 HST9
                go_wp2
                go_roundw
                case rel => exact ⟨G'.extract mm G'.size, putD P' c J, c, J + 1, A, f', pn + 1, true, rfl, rfl, by rw [HGE.out]; omega, by rw [HGE.out]; omega, hc0, by omega, by omega, by omega, HPL, HDS2, HDE2⟩
                case measure => simp [slLen]; omega
          · have hE := st1 he
            rw [hde.out] at hE
            injection hE with e1 e2
            subst e1; subst e2
            have d1 : (er != 0) = true := by simp [he]
            have HBEL := Lib.hid hds.out.bel
            clear st1 st2 hde hds
            go_wp2_with (go_at_call 53; refine (readnum_at G' b v mm er _ (by omega) hb HRD).mono ?_; rintro ex w8 ⟨rfl, rfl⟩)
            go_ret2
            exact RetDec.nil er HBEL.out
        · have hG0 : G'.size = 0 := by omega
          have hE : Hid (P' = out ∧ er = 0) := by
            have h1 := hde.out
            have h2 : nums G' = [] := List.eq_nil_of_length_eq_zero (by rw [nums_length]; exact hG0)
            rw [h2] at h1
            cases f <;> (rw [pdecL] at h1; injection h1 with a1 a2; exact ⟨a1, a2.symm⟩)
          obtain ⟨e1, e2⟩ := hE.out
          subst e1; subst e2
          have HIN : Hid (Ints wr w.heap.size (.slice (some ⟨gl, 0, none⟩) pn s.size) P') := by
            have := hds.out.row.toInts HGL0.out (by unfold maxLen; omega)
            unfold Hid
            rw [← hpn.out]
            simpa using this
          have HBEL := Lib.hid hds.out.bel
          clear hde hds hE
          go_wp2
          go_ret2
          exact ⟨_, rfl, HIN.out, HBEL.out⟩

end Go.Proofs.Ytmnnpfohjffniaa
