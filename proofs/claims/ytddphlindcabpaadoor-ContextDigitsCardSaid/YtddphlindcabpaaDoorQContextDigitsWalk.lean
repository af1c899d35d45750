/-
  The walk of ContextDigits (genCY.py).
-/
import Derived.Test.YtddphlindcabpaaDoorPkZZK
import Derived.Test.YtddphlindcabpaaDoorPkZ
import Derived.Deep.RegionHeld3
set_option linter.unusedSimpArgs false
set_option linter.unusedVariables false
namespace Go.Proofs.YtddphlindcabpaaDoor
open Go.RowKit
set_option linter.unusedVariables false

/-- The digits of the law. -/
def digL (d : Int) (l : List Int) : List Int := l.map fun b => d + b % 10
theorem digL_snoc (d : Int) (l : List Int) (k : Nat) (hk : k < l.length) : digL d (l.take (k + 1)) = digL d (l.take k) ++ [d + l.getD k 0 % 10] := by
  rw [take_snoc_int l k hk]; unfold digL; simp
theorem digL_len (d : Int) (l : List Int) : (digL d l).length = l.length := by unfold digL; simp
theorem digL_at (d : Int) (l : List Int) {c : Int} (h : c ∈ digL d l) : d ≤ c ∧ c ≤ d + 9 := by
  unfold digL at h
  obtain ⟨b, _, rfl⟩ := List.mem_map.1 h
  omega
theorem ar_of (l : List Int) : ∀ c ∈ digL 1632 l, arB c = true := fun c h => by have := digL_at 1632 l h; unfold arB; simp; omega
theorem ex_of (l : List Int) : ∀ c ∈ digL 1776 l, exB c = true := fun c h => by have := digL_at 1776 l h; unfold exB; simp; omega
theorem ar_no (l : List Int) : (digL 1632 l).any exB = false := by
  rw [List.any_eq_false]; intro c h; have := digL_at 1632 l h; unfold exB; simp; omega
theorem ex_no (l : List Int) : (digL 1776 l).any arB = false := by
  rw [List.any_eq_false]; intro c h; have := digL_at 1776 l h; unfold arB; simp; omega
theorem dig_sca (d : Int) (l : List Int) (h : d = 1632 ∨ d = 1776) : (digL d l).all scaB = true := by
  rw [List.all_eq_true]; intro c hc; have := digL_at d l hc; unfold scaB; simp; omega
theorem ctx_ar {T : Tb} {l : List Int} {i : Nat} (h : arB (l.getD i 0) = true) : ctxB T l i = !l.any exB := by
  have h2 := h
  unfold arB at h2
  simp only [Bool.and_eq_true, decide_eq_true_eq] at h2
  unfold ctxB
  simp only
  rw [if_neg (by omega), if_neg (by omega), if_neg (by omega), if_neg (by omega), if_pos h]
theorem ctx_ex {T : Tb} {l : List Int} {i : Nat} (h : exB (l.getD i 0) = true) : ctxB T l i = !l.any arB := by
  have h2 := h
  unfold exB at h2
  simp only [Bool.and_eq_true, decide_eq_true_eq] at h2
  unfold ctxB
  simp only
  rw [if_neg (by omega), if_neg (by omega), if_neg (by omega), if_neg (by omega), if_neg (fun h3 => by unfold arB at h3; simp only [Bool.and_eq_true, decide_eq_true_eq] at h3; omega), if_pos h]
theorem dig_one {T : Tb} (hv : checkT T = 0) (l : List Int) (hl : l.length ≤ 60) : chkC T (digL 1632 l) = (0, 0) :=
  chkC_ok (accE_zero hv (by rw [digL_len]; omega) (dig_sca _ _ (.inl rfl))) fun i hi => by rw [ctx_ar (ar_of l _ (by simp [hi])), ar_no]; rfl
theorem dig_two {T : Tb} (hv : checkT T = 0) (l : List Int) (hl : l.length ≤ 60) : chkC T (digL 1776 l) = (0, 0) :=
  chkC_ok (accE_zero hv (by rw [digL_len]; omega) (dig_sca _ _ (.inr rfl))) fun i hi => by rw [ctx_ex (ex_of l _ (by simp [hi])), ex_no]; rfl
theorem dig_both {T : Tb} (hv : checkT T = 0) (l : List Int) (hl : l.length ≤ 60) : chkC T (digL 1632 l ++ digL 1776 l) = (0, if 0 < l.length then 18 else 0) := by
  have ha : accE T (digL 1632 l ++ digL 1776 l) = 0 := accE_zero hv (by rw [List.length_append, digL_len, digL_len]; omega) (by rw [List.all_append, dig_sca _ _ (.inl rfl), dig_sca _ _ (.inr rfl)]; rfl)
  cases l with
  | nil => exact chkC_ok ha (fun i hi => absurd hi (by simp [digL]))
  | cons b r =>
    rw [if_pos (by simp)]
    have h1 : (digL 1632 (b :: r) ++ digL 1776 (b :: r)).any exB = true := by
      rw [List.any_append, Bool.or_eq_true]
      right
      exact List.any_eq_true.2 ⟨1776 + b % 10, by simp [digL], ex_of [b] _ (by simp [digL])⟩
    have h0 : arB ((digL 1632 (b :: r) ++ digL 1776 (b :: r)).getD 0 0) = true := ar_of [b] _ (by simp [digL])
    have hb : badC T (digL 1632 (b :: r) ++ digL 1776 (b :: r)) (digL 1632 (b :: r) ++ digL 1776 (b :: r)).length 0 = some 0 :=
      badC_first _ 0 0 (Nat.le_refl _) (by simp [digL]) (fun j h1 h2 => by omega) (by rw [ctx_ar h0, h1]; rfl)
    unfold chkC
    rw [if_neg (by omega), hb]
    rfl

/-- Two rows of the law's own. -/
structure LRow (B : Nat) (vi vw : Value) (X Y : List Int) (w : World) : Prop where
  ri : Ints w B vi X
  rw : Ints w B vw Y
  ne : ∀ b, vi.ownBlock = some b → vw.ownBlock ≠ some b
theorem LRow.below {B : Nat} {vi vw : Value} {X Y : List Int} {w w' : World} (h : LRow B vi vw X Y w) (hb : Below w.heap.size w w') : LRow B vi vw X Y w' := ⟨h.ri.below hb, h.rw.below hb, h.ne⟩
theorem LRow.want {B : Nat} {vi vw v : Value} {X Y Z : List Int} {w w' : World} (h : LRow B vi vw X Y w) (ho : Ints w' B v Z) (hg : w.grownBy w' vw.ownBlock) (hv : v.ownBlock = vw.ownBlock ∨ v.ownBlock = some w.heap.size) : LRow B vi v X Z w' := by
  refine ⟨World.ownsRow.kept h.ri hg ?_, ho, fun b hb => ?_⟩
  · rcases hb : vi.ownBlock with _ | b
    · exact .inl rfl
    · exact .inr fun e => h.ne b hb e.symm
  · rcases hv with hv | hv
    · rw [hv]; exact h.ne b hb
    · rw [hv]
      intro e
      injection e with e
      have := (World.ownsRow.lt h.ri b hb).2
      omega
theorem LRow.inn {B : Nat} {vi vw v : Value} {X Y Z : List Int} {w w' : World} (h : LRow B vi vw X Y w) (ho : Ints w' B v Z) (hg : w.grownBy w' vi.ownBlock) (hv : v.ownBlock = vi.ownBlock ∨ v.ownBlock = some w.heap.size) : LRow B v vw Z Y w' := by
  refine ⟨ho, World.ownsRow.kept h.rw hg ?_, fun b hb e => ?_⟩
  · rcases hb : vw.ownBlock with _ | b
    · exact .inl rfl
    · exact .inr fun e => h.ne b e.symm hb
  · rcases hv with hv | hv
    · rw [hv] at hb; exact h.ne b hb e
    · rw [hv] at hb
      injection hb with hb
      have := (World.ownsRow.lt h.rw b e).2
      omega

set_option maxRecDepth 100000 in
set_option maxHeartbeats 8000000 in
theorem contextDigits_walk (p0 : Option Addr) (cap0 : Nat) (zs0 : List Int) (p1 : Option Addr) (cap1 : Nat) (bs : List Int) (w : World) (hin0 : IntsIn w p0 zs0) (hl0 : zs0.length ≤ 17592186043904) (hin1 : RowIn .u8 w p1 bs) (hl1 : bs.length ≤ 140737488351232) (hby : ∀ z ∈ bs, (Lit.int .u8 z).wf = true) (hr : Rsv w) :
    Calls Tryd.prog 5 #[.slice p0 zs0.length cap0, .slice p1 bs.length cap1] w (Gives (.bool true) w) := by
  have HI0 := Lib.hid hin0
  have HL0 := Lib.hid hl0
  have HR := Lib.hid hr
  have HI1 := Lib.hid hin1
  have HBY := Lib.hid hby
  obtain ⟨nb, hnb⟩ : ∃ n, bs.length = n := ⟨_, rfl⟩
  rw [hnb] at hl1 ⊢
  have HNB := Lib.hid hnb
  clear hin0 hl0 hr hin1 hby hnb
  go_enter Tryd.func5, Tryd.ntmps5
  go_wp2_with fail
  refine (tables_any p0 cap0 zs0 _ HI0.out HL0.out).mono ?_
  rintro e w1 ⟨⟨a0, a1, a2, a3, a4, a5, a6, a7, a8, a9, a10, a11⟩, T, rfl, htv, hm, hcap1, hb1⟩
  obtain ⟨pa0, na0, qa0, hsl0⟩ : Slc a0 := htv.cat.slc
  subst hsl0
  obtain ⟨pa1, na1, qa1, hsl1⟩ : Slc a1 := htv.cls.slc
  subst hsl1
  obtain ⟨pa2, na2, qa2, hsl2⟩ : Slc a2 := htv.joi.slc
  subst hsl2
  obtain ⟨pa3, na3, qa3, hsl3⟩ : Slc a3 := htv.bid.slc
  subst hsl3
  obtain ⟨pa4, na4, qa4, hsl4⟩ : Slc a4 := htv.scr.slc
  subst hsl4
  obtain ⟨pa5, na5, qa5, hsl5⟩ : Slc a5 := htv.sta.slc
  subst hsl5
  obtain ⟨pa6, na6, qa6, hsl6⟩ : Slc a6 := htv.ign.slc
  subst hsl6
  obtain ⟨pa7, na7, qa7, hsl7⟩ : Slc a7 := htv.ext.slc
  subst hsl7
  obtain ⟨pa8, na8, qa8, hsl8⟩ : Slc a8 := htv.map.slc
  subst hsl8
  obtain ⟨pa9, na9, qa9, hsl9⟩ : Slc a9 := htv.dec.slc
  subst hsl9
  obtain ⟨pa10, na10, qa10, hsl10⟩ : Slc a10 := htv.exc.slc
  subst hsl10
  obtain ⟨pa11, na11, qa11, hsl11⟩ : Slc a11 := htv.pro.slc
  subst hsl11
  have hba1 : Below w1.heap.size w1 (w1.alloc (.cells (tabCells ⟨.slice pa0 na0 qa0, .slice pa1 na1 qa1, .slice pa2 na2 qa2, .slice pa3 na3 qa3, .slice pa4 na4 qa4, .slice pa5 na5 qa5, .slice pa6 na6 qa6, .slice pa7 na7 qa7, .slice pa8 na8 qa8, .slice pa9 na9 qa9, .slice pa10 na10 qa10, .slice pa11 na11 qa11⟩) 26)) := (Below.refl _ _).alloc (Nat.le_refl _) _
  have HT1 : Hid (TabV (w1.alloc (.cells (tabCells ⟨.slice pa0 na0 qa0, .slice pa1 na1 qa1, .slice pa2 na2 qa2, .slice pa3 na3 qa3, .slice pa4 na4 qa4, .slice pa5 na5 qa5, .slice pa6 na6 qa6, .slice pa7 na7 qa7, .slice pa8 na8 qa8, .slice pa9 na9 qa9, .slice pa10 na10 qa10, .slice pa11 na11 qa11⟩) 26)) ⟨.slice pa0 na0 qa0, .slice pa1 na1 qa1, .slice pa2 na2 qa2, .slice pa3 na3 qa3, .slice pa4 na4 qa4, .slice pa5 na5 qa5, .slice pa6 na6 qa6, .slice pa7 na7 qa7, .slice pa8 na8 qa8, .slice pa9 na9 qa9, .slice pa10 na10 qa10, .slice pa11 na11 qa11⟩ T) := htv.below hba1
  have HX1 : Hid (BoxT (w1.alloc (.cells (tabCells ⟨.slice pa0 na0 qa0, .slice pa1 na1 qa1, .slice pa2 na2 qa2, .slice pa3 na3 qa3, .slice pa4 na4 qa4, .slice pa5 na5 qa5, .slice pa6 na6 qa6, .slice pa7 na7 qa7, .slice pa8 na8 qa8, .slice pa9 na9 qa9, .slice pa10 na10 qa10, .slice pa11 na11 qa11⟩) 26)) w1.heap.size ⟨.slice pa0 na0 qa0, .slice pa1 na1 qa1, .slice pa2 na2 qa2, .slice pa3 na3 qa3, .slice pa4 na4 qa4, .slice pa5 na5 qa5, .slice pa6 na6 qa6, .slice pa7 na7 qa7, .slice pa8 na8 qa8, .slice pa9 na9 qa9, .slice pa10 na10 qa10, .slice pa11 na11 qa11⟩) := BoxT.new _ _ _
  have HB1 : Hid (Below w.heap.size w (w1.alloc (.cells (tabCells ⟨.slice pa0 na0 qa0, .slice pa1 na1 qa1, .slice pa2 na2 qa2, .slice pa3 na3 qa3, .slice pa4 na4 qa4, .slice pa5 na5 qa5, .slice pa6 na6 qa6, .slice pa7 na7 qa7, .slice pa8 na8 qa8, .slice pa9 na9 qa9, .slice pa10 na10 qa10, .slice pa11 na11 qa11⟩) 26))) := hb1.trans (hba1.mono hb1.size)
  have HM := Lib.hid hm
  have HCAP : Hid (CapOf ⟨.slice pa0 na0 qa0, .slice pa1 na1 qa1, .slice pa2 na2 qa2, .slice pa3 na3 qa3, .slice pa4 na4 qa4, .slice pa5 na5 qa5, .slice pa6 na6 qa6, .slice pa7 na7 qa7, .slice pa8 na8 qa8, .slice pa9 na9 qa9, .slice pa10 na10 qa10, .slice pa11 na11 qa11⟩) := hcap1
  clear htv hm hcap1 hb1 hba1
  simp only [tabCells] at HT1 HX1 HB1
  go_wp2_with fail
  generalize (w1.alloc (.cells #[.slice pa0 na0 qa0, .slice pa1 na1 qa1, .slice pa2 na2 qa2, .slice pa3 na3 qa3, .slice pa4 na4 qa4, .slice pa5 na5 qa5, .slice pa6 na6 qa6, .slice pa7 na7 qa7, .slice pa8 na8 qa8, .slice pa9 na9 qa9, .slice pa10 na10 qa10, .slice pa11 na11 qa11] 26)) = W at HT1 HX1 HB1 ⊢
  generalize w1.heap.size = g at HX1 ⊢
  generalize (⟨.slice pa0 na0 qa0, .slice pa1 na1 qa1, .slice pa2 na2 qa2, .slice pa3 na3 qa3, .slice pa4 na4 qa4, .slice pa5 na5 qa5, .slice pa6 na6 qa6, .slice pa7 na7 qa7, .slice pa8 na8 qa8, .slice pa9 na9 qa9, .slice pa10 na10 qa10, .slice pa11 na11 qa11⟩ : TV) = x at HT1 HX1 HCAP
  have HE : Hid (LEnv w g x T W) := ⟨HT1.out, HX1.out, HB1.out⟩
  clear HT1 HX1 HB1
  go_loopw [6, 7, 8] (fun vi vw i wr => ∃ k : Nat, k ≤ nb ∧ k ≤ 30 ∧ i = .int .i64 k ∧ Hid (LRow W.heap.size vi vw (digL 1632 (bs.take k)) (digL 1776 (bs.take k)) wr) ∧ Hid (Below W.heap.size W wr)) (fun _ _ i _ => 30 - (intOf i).toNat)
  case atStart => exact ⟨0, Nat.zero_le _, Nat.zero_le _, rfl, by simpa [Hid, digL] using (⟨Ints.nil _ _, Ints.nil _ _, fun b hb => by cases hb⟩ : LRow W.heap.size (.slice none 0 0) (.slice none 0 0) [] [] W), Below.refl _ _⟩
  case round =>
    obtain ⟨k, hk, hk30, rfl, hrow, hbel⟩ := hrel
    by_cases hlt : k < nb ∧ k < 30
    · obtain ⟨hlt, hlt30⟩ := hlt
      have hkl : k < bs.length := by rw [HNB.out]; exact hlt
      obtain ⟨b, off, rfl, hck⟩ := (HI1.out.below (HE.out.step hbel.out).bel) k hkl
      obtain ⟨z, hz⟩ : ∃ z, bs.getD k 0 = z := ⟨_, rfl⟩
      rw [hz] at hck
      have hwf := HBY.out z (by rw [← hz]; simp [hkl])
      have hz0 : 0 ≤ z ∧ z ≤ 255 := by simp only [Lit.wf, Bool.and_eq_true, decide_eq_true_eq] at hwf; exact hwf
      obtain ⟨hz0, hz255⟩ := hz0
      have HIS := Lib.hid (digL_snoc 1632 bs k hkl)
      have HWS := Lib.hid (digL_snoc 1776 bs k hkl)
      rw [hz] at HIS HWS
      have hli : (digL 1632 (bs.take k)).length ≤ 60 := by rw [digL_len]; simp; omega
      have hlw : (digL 1776 (bs.take k)).length ≤ 60 := by rw [digL_len]; simp; omega
      have HLI := Lib.hid hli
      have HLW := Lib.hid hlw
      obtain ⟨q, hq⟩ : ∃ q, z % 10 = q := ⟨_, rfl⟩
      have hq0 : 0 ≤ q ∧ q < 10 := by omega
      obtain ⟨hq0, hq10⟩ := hq0
      rw [hq] at HIS HWS
      have hqt : z.tmod 10 = q := by rw [Int.tmod_eq_emod_of_nonneg hz0]; exact hq
      have hzw : IntKind.i64.wrap z = z := IntWalk.i64_in _ (by omega)
      obtain ⟨c, hc⟩ : ∃ c, 1632 + q = c := ⟨_, rfl⟩
      obtain ⟨c2, hc2⟩ : ∃ c, 1776 + q = c := ⟨_, rfl⟩
      have hcw : IntKind.i64.wrap c = c := IntWalk.i64_in _ (by omega)
      have hcw2 : IntKind.i64.wrap c2 = c2 := IntWalk.i64_in _ (by omega)
      rw [hc] at HIS
      rw [hc2] at HWS
      have hba := (Below.refl wr.heap.size wr).alloc (Nat.le_refl _) (.cells #[.int .i64 c] 3)
      have HR1 := Lib.hid (hrow.out.below hba)
      have HB1 := Lib.hid (hbel.out.alloc hbel.out.size (.cells #[.int .i64 c] 3))
      have hd1 : decide ((k : Int) < (nb : Int)) = true := decide_eq_true (by omega)
      have hd2 : decide ((k : Int) < 30) = true := decide_eq_true (by omega)
      have HZ := Lib.hid hz
      clear hz hwf hli hlw hba hkl
      have HLD : Hid (∀ w', Below W.heap.size W w' → w'.cell? ⟨b, off + k, none⟩ = some (.int .u8 z)) := fun w' hb => by
        obtain ⟨b2, off2, e2, hck2⟩ := (HI1.out.below (HE.out.step hb).bel) k (by rw [HNB.out]; exact hlt)
        injection e2 with e2
        injection e2 with e2 e3 _
        subst e2
        subst e3
        rw [HZ.out] at hck2
        exact hck2
      have HAA : Hid (∀ {v4 : Value} (w4 : World), Below W.heap.size W (wr.alloc (.cells #[.int .i64 c] 3)) → LRow W.heap.size u6 u7 (digL 1632 (bs.take k)) (digL 1776 (bs.take k)) (wr.alloc (.cells #[.int .i64 c] 3)) → Ints w4 W.heap.size v4 (digL 1632 (bs.take k) ++ [c]) → (wr.alloc (.cells #[.int .i64 c] 3)).grownBy w4 u6.ownBlock → (v4.ownBlock = u6.ownBlock ∨ v4.ownBlock = some (wr.alloc (.cells #[.int .i64 c] 3)).heap.size) → Below W.heap.size W (w4.alloc (.cells #[.int .i64 c2] 3)) ∧ LRow W.heap.size v4 u7 (digL 1632 (bs.take k) ++ [c]) (digL 1776 (bs.take k)) (w4.alloc (.cells #[.int .i64 c2] 3))) := fun w4 h1 h2 h3 h4 h5 =>
        ⟨(below_appI h1 h2.ri (Nat.le_refl _) h4).alloc (below_appI h1 h2.ri (Nat.le_refl _) h4).size _, (h2.inn h3 h4 h5).below ((Below.refl w4.heap.size w4).alloc (Nat.le_refl _) _)⟩
      go_wp2_with (first
        | (at_builtin; (refine wpList_append_ints_at (.tmp 27) (.tmp 35) rfl rfl W.heap.size u6 (digL 1632 (bs.take k)) rfl HR1.out.ri (some ⟨wr.heap.size, 0, none⟩) 1 1 [c] rfl rfl (cx_one wr c) (by have := HLI.out; simp; omega) HB1.out.size ?_); intro v4 w4 ho4 hg4 hv4; have hck2 := HLD.out w4 (below_appI HB1.out HR1.out.ri (Nat.le_refl _) hg4))
        | (at_builtin; (refine wpList_append_ints_at (.tmp 37) (.tmp 45) rfl rfl W.heap.size u7 (digL 1776 (bs.take k)) rfl (HAA.out w4 HB1.out HR1.out ho4 hg4 hv4).2.rw (some ⟨w4.heap.size, 0, none⟩) 1 1 [c2] rfl rfl (cx_one w4 c2) (by have := HLW.out; simp; omega) (HAA.out w4 HB1.out HR1.out ho4 hg4 hv4).1.size ?_); intro v5 w5 ho5 hg5 hv5)
        | fail)
      have HR4 : Hid (LRow W.heap.size v4 v5 (digL 1632 (bs.take (k + 1))) (digL 1776 (bs.take (k + 1))) w5) := by unfold Hid; rw [HIS.out, HWS.out]; exact (HAA.out w4 HB1.out HR1.out ho4 hg4 hv4).2.want ho5 hg5 hv5
      have HB4 : Hid (Below W.heap.size W w5) := below_appI (HAA.out w4 HB1.out HR1.out ho4 hg4 hv4).1 (HAA.out w4 HB1.out HR1.out ho4 hg4 hv4).2.rw (Nat.le_refl _) hg5
      clear ho5 hg5 hv5 hck2 ho4 hg4 hv4
      go_wp2
      go_roundw
      case rel => exact ⟨k + 1, by omega, by omega, by go_num, HR4, HB4⟩
      case measure => first | (simp [intOf]; done) | (simp [intOf]; omega)
    · by_cases h1 : k < nb
      · have hd1 : decide ((k : Int) < (nb : Int)) = true := decide_eq_true (by omega)
        have hd2 : decide ((k : Int) < 30) = false := decide_eq_false (by omega)
        have HBL := hbel.out
        have hln : (bs.take k).length ≤ 60 := by simp; omega
        have h1 := dig_one (T := T) HM.out.check _ hln
        have h2 := dig_two (T := T) HM.out.check _ hln
        have h3 := dig_both (T := T) HM.out.check _ hln
        have hkk : (bs.take k).length = k := by simp; rw [HNB.out]; omega
        rw [hkk] at h3
        obtain ⟨X, hX⟩ : ∃ X, digL 1632 (bs.take k) = X := ⟨_, rfl⟩
        obtain ⟨Y, hY⟩ : ∃ Y, digL 1776 (bs.take k) = Y := ⟨_, rfl⟩
        have HNX : Hid (X.length = k) := by unfold Hid; rw [← hX, digL_len]; exact hkk
        have HNY : Hid (Y.length = k) := by unfold Hid; rw [← hY, digL_len]; exact hkk
        have hrw := hrow.out
        rw [hX, hY] at hrw
        rw [hX] at h1 h3
        rw [hY] at h2 h3
        obtain ⟨U, hU⟩ : ∃ U, X ++ Y = U := ⟨_, rfl⟩
        have HUU := Lib.hid hU
        rw [hU] at h3
        have HUL : Hid (U.length = k + k) := by unfold Hid; rw [← hU, List.length_append, HNX.out, HNY.out]
        have HMA := Lib.hid h1
        have HMB := Lib.hid h2
        obtain ⟨E3, hE3⟩ : ∃ E : Int, (if 0 < k then 18 else 0) = E := ⟨_, rfl⟩
        rw [hE3] at h3
        have HMC := Lib.hid h3
        obtain ⟨pX, cX, e6, hi6⟩ := hrw.ri.inn
        obtain ⟨pY, cY, e7, hi7⟩ := hrw.rw.inn
        rw [HNX.out] at e6
        rw [HNY.out] at e7
        subst e6
        subst e7
        have HX := Lib.hid hi6
        have HY := Lib.hid hi7
        have hoa := fun W (h1 : TabV W x T) h2 h3 => ccheck_at x T pX cX X 0 0 W h1 h2 h3 (by rw [HNX.out]; omega) HMA
        have hob := fun W (h1 : TabV W x T) h2 h3 => ccheck_at x T pY cY Y 0 0 W h1 h2 h3 (by rw [HNY.out]; omega) HMB
        have hoz := fun pz cz W (h1 : TabV W x T) h2 h3 => ccheck_at x T pz cz U 0 E3 W h1 h2 h3 (by rw [HUL.out]; omega) HMC
        rw [HNX.out] at hoa
        rw [HNY.out] at hob
        rw [HUL.out] at hoz
        have HOA := Lib.hid hoa
        have HOB := Lib.hid hob
        have HOZ := Lib.hid hoz
        have HEE := Lib.hid hE3
        replace HE := Lib.hid (HE.out.step HBL)
        have hna6 : k ≤ 60 := by omega
        clear h1 h2 h3 hX hY hU hrw hi6 hi7 hoa hob hoz hrow hbel HBL hln hkk hE3
        obtain ⟨⟨k0, k1, k2, k3, k4, k5⟩, ⟨k6, k7, k8, k9, k10, k11⟩⟩ := HE.out.box.load
        go_wp2_with fail
        refine (HOA.out _ HE.out.tab (HR.out.below HE.out.bel) HX.out).mono ?_
        rintro e w4 ⟨rfl, hb⟩
        replace HE := Lib.hid (HE.out.step hb)
        replace HX := Lib.hid (HX.out.below hb)
        replace HY := Lib.hid (HY.out.below hb)
        clear hb k0 k1 k2 k3 k4 k5 k6 k7 k8 k9 k10 k11
        obtain ⟨⟨k0, k1, k2, k3, k4, k5⟩, ⟨k6, k7, k8, k9, k10, k11⟩⟩ := HE.out.box.load
        go_wp2_with fail
        refine (HOB.out _ HE.out.tab (HR.out.below HE.out.bel) HY.out).mono ?_
        rintro e w5 ⟨rfl, hb⟩
        replace HE := Lib.hid (HE.out.step hb)
        replace HX := Lib.hid (HX.out.below hb)
        replace HY := Lib.hid (HY.out.below hb)
        clear hb k0 k1 k2 k3 k4 k5 k6 k7 k8 k9 k10 k11
        go_upto_region 10 with (fail)
        obtain ⟨⟨k0, k1, k2, k3, k4, k5⟩, ⟨k6, k7, k8, k9, k10, k11⟩⟩ := HE.out.box.load
        have HLA : Hid (([] : List Int).length + X.length ≤ 17592186043904) := by unfold Hid; rw [HNX.out]; simp; omega
        have HLB : Hid ((([] : List Int) ++ X).length + Y.length ≤ 17592186043904) := by unfold Hid; simp [HNX.out, HNY.out]; omega
        have HUV : Hid (([] : List Int) ++ X ++ Y = U) := by unfold Hid; rw [← HUU.out]; simp
        have hd0 := drew_one w5
        have HD0 := Lib.hid hd0
        clear hd0
        go_region_held3 (boxF g x)
          (first
            | exact (HE.out.step HD0.out).box.flat
            | exact (HE.out.step hb6).box.flat
            | exact (HE.out.step hb7).box.flat
            | exact ((HE.out.step hb7).step hb9).box.flat)
          (first
            | (go_at_call 9; (with_reducible refine (HOZ.out p8 c8 _ (HE.out.step hb7).tab (HR.out.below (HE.out.step hb7).bel) hi8).mono ?_); rintro e w9 ⟨rfl, hb9⟩)
            | (refine step_app_ints (by rfl) (.const (.slice none 0 0)) (.tmp 61) (by rfl) w5.heap.size (.slice none 0 0) [] (by rfl) (Ints.nil _ _) pX k cX X HNX.out (by rfl) (HX.out.below HD0.out) HLA.out (Nat.le_refl _) ?_; intro v6 w6 ho6 hg6; have hb6 : Below w5.heap.size w5 w6 := below_appI HD0.out (Ints.nil w5.drew w5.heap.size) (Nat.le_refl _) hg6)
            | (refine step_app_ints (by rfl) (.tmp 62) (.tmp 63) (by rfl) w5.heap.size v6 ([] ++ X) (by rfl) ho6 pY k cY Y HNY.out (by rfl) (HY.out.below hb6) HLB.out hb6.size ?_; intro v7 w7 ho7 hg7; have hb7 : Below w5.heap.size w5 w7 := below_appI hb6 ho6 (Nat.le_refl _) hg7; rw [HUV.out] at ho7; obtain ⟨p8, c8, e8, hi8⟩ := ho7.inn; rw [HUL.out] at e8; subst e8)
            | fail)
        all_goals
          have HEZ := Lib.hid ((HE.out.step hb7).step hb9)
          clear hb7 hb9
          try (go_wp2_with fail)
          refine (awake15_any _ (HR.out.below HEZ.out.bel)).mono ?_
          rintro e wz ⟨rfl, hb⟩
          have HBZ := Lib.hid (HEZ.out.step hb).bel
          clear hb
          by_cases hk0 : 0 < k
          · have he : E3 = 18 := by rw [← HEE.out, if_pos hk0]
            subst he
            have g9 : decide ((0 : Int) < (k : Int)) = true := decide_eq_true (by omega)
            go_wp2
            go_ret
            exact ⟨rfl, HBZ.out⟩
          · have he : E3 = 0 := by rw [← HEE.out, if_neg hk0]
            subst he
            have g9 : decide ((0 : Int) < (k : Int)) = false := decide_eq_false (by omega)
            go_wp2
            go_ret
            exact ⟨rfl, HBZ.out⟩
      · have hd1 : decide ((k : Int) < (nb : Int)) = false := decide_eq_false (by omega)
        have HBL := hbel.out
        have hln : (bs.take k).length ≤ 60 := by simp; omega
        have h1 := dig_one (T := T) HM.out.check _ hln
        have h2 := dig_two (T := T) HM.out.check _ hln
        have h3 := dig_both (T := T) HM.out.check _ hln
        have hkk : (bs.take k).length = k := by simp; rw [HNB.out]; omega
        rw [hkk] at h3
        obtain ⟨X, hX⟩ : ∃ X, digL 1632 (bs.take k) = X := ⟨_, rfl⟩
        obtain ⟨Y, hY⟩ : ∃ Y, digL 1776 (bs.take k) = Y := ⟨_, rfl⟩
        have HNX : Hid (X.length = k) := by unfold Hid; rw [← hX, digL_len]; exact hkk
        have HNY : Hid (Y.length = k) := by unfold Hid; rw [← hY, digL_len]; exact hkk
        have hrw := hrow.out
        rw [hX, hY] at hrw
        rw [hX] at h1 h3
        rw [hY] at h2 h3
        obtain ⟨U, hU⟩ : ∃ U, X ++ Y = U := ⟨_, rfl⟩
        have HUU := Lib.hid hU
        rw [hU] at h3
        have HUL : Hid (U.length = k + k) := by unfold Hid; rw [← hU, List.length_append, HNX.out, HNY.out]
        have HMA := Lib.hid h1
        have HMB := Lib.hid h2
        obtain ⟨E3, hE3⟩ : ∃ E : Int, (if 0 < k then 18 else 0) = E := ⟨_, rfl⟩
        rw [hE3] at h3
        have HMC := Lib.hid h3
        obtain ⟨pX, cX, e6, hi6⟩ := hrw.ri.inn
        obtain ⟨pY, cY, e7, hi7⟩ := hrw.rw.inn
        rw [HNX.out] at e6
        rw [HNY.out] at e7
        subst e6
        subst e7
        have HX := Lib.hid hi6
        have HY := Lib.hid hi7
        have hoa := fun W (h1 : TabV W x T) h2 h3 => ccheck_at x T pX cX X 0 0 W h1 h2 h3 (by rw [HNX.out]; omega) HMA
        have hob := fun W (h1 : TabV W x T) h2 h3 => ccheck_at x T pY cY Y 0 0 W h1 h2 h3 (by rw [HNY.out]; omega) HMB
        have hoz := fun pz cz W (h1 : TabV W x T) h2 h3 => ccheck_at x T pz cz U 0 E3 W h1 h2 h3 (by rw [HUL.out]; omega) HMC
        rw [HNX.out] at hoa
        rw [HNY.out] at hob
        rw [HUL.out] at hoz
        have HOA := Lib.hid hoa
        have HOB := Lib.hid hob
        have HOZ := Lib.hid hoz
        have HEE := Lib.hid hE3
        replace HE := Lib.hid (HE.out.step HBL)
        have hna6 : k ≤ 60 := by omega
        clear h1 h2 h3 hX hY hU hrw hi6 hi7 hoa hob hoz hrow hbel HBL hln hkk hE3
        obtain ⟨⟨k0, k1, k2, k3, k4, k5⟩, ⟨k6, k7, k8, k9, k10, k11⟩⟩ := HE.out.box.load
        go_wp2_with fail
        refine (HOA.out _ HE.out.tab (HR.out.below HE.out.bel) HX.out).mono ?_
        rintro e w4 ⟨rfl, hb⟩
        replace HE := Lib.hid (HE.out.step hb)
        replace HX := Lib.hid (HX.out.below hb)
        replace HY := Lib.hid (HY.out.below hb)
        clear hb k0 k1 k2 k3 k4 k5 k6 k7 k8 k9 k10 k11
        obtain ⟨⟨k0, k1, k2, k3, k4, k5⟩, ⟨k6, k7, k8, k9, k10, k11⟩⟩ := HE.out.box.load
        go_wp2_with fail
        refine (HOB.out _ HE.out.tab (HR.out.below HE.out.bel) HY.out).mono ?_
        rintro e w5 ⟨rfl, hb⟩
        replace HE := Lib.hid (HE.out.step hb)
        replace HX := Lib.hid (HX.out.below hb)
        replace HY := Lib.hid (HY.out.below hb)
        clear hb k0 k1 k2 k3 k4 k5 k6 k7 k8 k9 k10 k11
        go_upto_region 10 with (fail)
        obtain ⟨⟨k0, k1, k2, k3, k4, k5⟩, ⟨k6, k7, k8, k9, k10, k11⟩⟩ := HE.out.box.load
        have HLA : Hid (([] : List Int).length + X.length ≤ 17592186043904) := by unfold Hid; rw [HNX.out]; simp; omega
        have HLB : Hid ((([] : List Int) ++ X).length + Y.length ≤ 17592186043904) := by unfold Hid; simp [HNX.out, HNY.out]; omega
        have HUV : Hid (([] : List Int) ++ X ++ Y = U) := by unfold Hid; rw [← HUU.out]; simp
        have hd0 := drew_one w5
        have HD0 := Lib.hid hd0
        clear hd0
        go_region_held3 (boxF g x)
          (first
            | exact (HE.out.step HD0.out).box.flat
            | exact (HE.out.step hb6).box.flat
            | exact (HE.out.step hb7).box.flat
            | exact ((HE.out.step hb7).step hb9).box.flat)
          (first
            | (go_at_call 9; (with_reducible refine (HOZ.out p8 c8 _ (HE.out.step hb7).tab (HR.out.below (HE.out.step hb7).bel) hi8).mono ?_); rintro e w9 ⟨rfl, hb9⟩)
            | (refine step_app_ints (by rfl) (.const (.slice none 0 0)) (.tmp 61) (by rfl) w5.heap.size (.slice none 0 0) [] (by rfl) (Ints.nil _ _) pX k cX X HNX.out (by rfl) (HX.out.below HD0.out) HLA.out (Nat.le_refl _) ?_; intro v6 w6 ho6 hg6; have hb6 : Below w5.heap.size w5 w6 := below_appI HD0.out (Ints.nil w5.drew w5.heap.size) (Nat.le_refl _) hg6)
            | (refine step_app_ints (by rfl) (.tmp 62) (.tmp 63) (by rfl) w5.heap.size v6 ([] ++ X) (by rfl) ho6 pY k cY Y HNY.out (by rfl) (HY.out.below hb6) HLB.out hb6.size ?_; intro v7 w7 ho7 hg7; have hb7 : Below w5.heap.size w5 w7 := below_appI hb6 ho6 (Nat.le_refl _) hg7; rw [HUV.out] at ho7; obtain ⟨p8, c8, e8, hi8⟩ := ho7.inn; rw [HUL.out] at e8; subst e8)
            | fail)
        all_goals
          have HEZ := Lib.hid ((HE.out.step hb7).step hb9)
          clear hb7 hb9
          try (go_wp2_with fail)
          refine (awake15_any _ (HR.out.below HEZ.out.bel)).mono ?_
          rintro e wz ⟨rfl, hb⟩
          have HBZ := Lib.hid (HEZ.out.step hb).bel
          clear hb
          by_cases hk0 : 0 < k
          · have he : E3 = 18 := by rw [← HEE.out, if_pos hk0]
            subst he
            have g9 : decide ((0 : Int) < (k : Int)) = true := decide_eq_true (by omega)
            go_wp2
            go_ret
            exact ⟨rfl, HBZ.out⟩
          · have he : E3 = 0 := by rw [← HEE.out, if_neg hk0]
            subst he
            have g9 : decide ((0 : Int) < (k : Int)) = false := decide_eq_false (by omega)
            go_wp2
            go_ret
            exact ⟨rfl, HBZ.out⟩

end Go.Proofs.YtddphlindcabpaaDoor
