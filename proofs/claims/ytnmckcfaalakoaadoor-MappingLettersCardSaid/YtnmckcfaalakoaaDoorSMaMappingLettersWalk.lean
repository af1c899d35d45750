/-
  The walk of MappingLetters (genML.py).
-/
import Derived.Test.YtnmckcfaalakoaaDoorSMaMapLaw
import Derived.Test.YtnmckcfaalakoaaDoorSMaTabRN
set_option linter.unusedSimpArgs false
set_option linter.unusedVariables false
namespace Go.Proofs.YtnmckcfaalakoaaDoor
open Go.RowKit
set_option linter.unusedVariables false

/-- The letters of the law, and what they are mapped to. -/
def inL (l : List Int) : List Int := l.map fun b => if 128 ≤ b then 97 + b % 26 - 32 else 97 + b % 26
def wantL (l : List Int) : List Int := l.map fun b => 97 + b % 26
theorem sta_low {T : Tb} (h : checkT T = 0) {c : Int} (hc : 97 ≤ c ∧ c ≤ 122) : staT T c = 1 := by
  unfold staT
  rw [val_res (r2_sta (check_rules h).2.1) (resB_iff.2 (by omega))]
  unfold fixT
  rw [if_pos (by simp [latB, lowB]; omega)]; rfl
theorem sta_upp {T : Tb} (h : checkT T = 0) {c : Int} (hc : 65 ≤ c ∧ c ≤ 90) : staT T c = 3 := by
  unfold staT
  rw [val_res (r2_sta (check_rules h).2.1) (resB_iff.2 (by omega))]
  unfold fixT
  rw [if_neg (by simp [latB, lowB, digB, sylB]; omega), if_pos (by simp [uppB]; omega)]; rfl
theorem let1 {T : Tb} (h : checkT T = 0) (b : Int) : map1 T (if 128 ≤ b then 97 + b % 26 - 32 else 97 + b % 26) = [97 + b % 26] ∧ staT T (if 128 ≤ b then 97 + b % 26 - 32 else 97 + b % 26) ≠ 0 ∧ scaB (if 128 ≤ b then 97 + b % 26 - 32 else 97 + b % 26) = true := by
  have h1 : 0 ≤ b % 26 := by omega
  have h2 : b % 26 < 26 := by omega
  by_cases hb : 128 ≤ b
  · rw [if_pos hb]
    have hs := sta_upp h (c := 97 + b % 26 - 32) (by omega)
    refine ⟨?_, by rw [hs]; decide, by unfold scaB; simp; omega⟩
    rw [map1_map hs]
    unfold mapsT
    rw [if_pos (by simp [uppB]; omega)]
    congr 1; omega
  · rw [if_neg hb]
    have hs := sta_low h (c := 97 + b % 26) (by omega)
    exact ⟨map1_self (.inl hs), by rw [hs]; decide, by unfold scaB; simp; omega⟩
theorem let_map {T : Tb} (h : checkT T = 0) : ∀ l : List Int, mapF T (inL l) = wantL l ∧ (∀ c ∈ inL l, staT T c ≠ 0) ∧ (inL l).all scaB = true
  | [] => ⟨rfl, fun c hc => by simp [inL] at hc, rfl⟩
  | b :: r => by
    obtain ⟨h1, h2, h3⟩ := let_map h r
    obtain ⟨k1, k2, k3⟩ := let1 h b
    have e1 : inL (b :: r) = (if 128 ≤ b then 97 + b % 26 - 32 else 97 + b % 26) :: inL r := by unfold inL; rw [List.map_cons]
    have e2 : wantL (b :: r) = (97 + b % 26) :: wantL r := by unfold wantL; rw [List.map_cons]
    have e3 : ∀ (c : Int) (q : List Int), mapF T (c :: q) = map1 T c ++ mapF T q := fun c q => by unfold mapF; rw [List.flatMap_cons]
    rw [e1, e2, e3, h1, k1]
    refine ⟨rfl, fun c hc => ?_, ?_⟩
    · rcases List.mem_cons.1 hc with rfl | hc
      · exact k2
      · exact h2 c hc
    · rw [List.all_cons, k3, h3]; rfl
theorem let_all {T : Tb} (h : checkT T = 0) (l : List Int) (hl : l.length ≤ 60) : mapR T (inL l) = (wantL l, 0, 0) := by
  obtain ⟨h1, h2, h3⟩ := let_map h l
  have hn : (inL l).length = l.length := by unfold inL; simp
  have hw : (wantL l).length = l.length := by unfold wantL; simp
  have := mapR_mk (T := T) (l := inL l) (accE_zero h (by omega) h3) ((badK_none 0 _).2 h2) (by rw [h1]; omega)
  rwa [h1] at this
theorem inL_snoc (l : List Int) (k : Nat) (hk : k < l.length) : inL (l.take (k + 1)) = inL (l.take k) ++ [if 128 ≤ l.getD k 0 then 97 + l.getD k 0 % 26 - 32 else 97 + l.getD k 0 % 26] := by
  rw [take_snoc_int l k hk]; unfold inL; simp
theorem wantL_snoc (l : List Int) (k : Nat) (hk : k < l.length) : wantL (l.take (k + 1)) = wantL (l.take k) ++ [97 + l.getD k 0 % 26] := by
  rw [take_snoc_int l k hk]; unfold wantL; simp

/-- Two rows of the law's own. -/
structure LRow (B : Nat) (vi vw : Value) (X Y : List Int) (w : World) : Prop where
  ri : Ints w B vi X
  rw : Ints w B vw Y
  ne : ∀ b, vi.ownBlock = some b → vw.ownBlock ≠ some b
theorem LRow.below {B : Nat} {vi vw : Value} {X Y : List Int} {w w' : World} (h : LRow B vi vw X Y w) (hb : Below w.heap.size w w') : LRow B vi vw X Y w' := ⟨h.ri.below hb, h.rw.below hb, h.ne⟩
theorem LRow.want {B : Nat} {vi vw v : Value} {X Y Z : List Int} {w w' : World} (h : LRow B vi vw X Y w) (ho : Ints w' B v Z) (hg : w.grownBy w' vw.ownBlock) (hv : v.ownBlock = vw.ownBlock ∨ v.ownBlock = some w.heap.size) : LRow B vi v X Z w' := by
  refine ⟨World.ownsRow.kept h.ri hg ?_, ho, fun b hb => ?_⟩
  · rcases hb : vi.ownBlock with _ | b
    · exact .inl rfl
    · exact .inr fun e => h.ne b hb e.symm
  · rcases hv with hv | hv
    · rw [hv]; exact h.ne b hb
    · rw [hv]
      intro e
      injection e with e
      have := (World.ownsRow.lt h.ri b hb).2
      omega
theorem LRow.inn {B : Nat} {vi vw v : Value} {X Y Z : List Int} {w w' : World} (h : LRow B vi vw X Y w) (ho : Ints w' B v Z) (hg : w.grownBy w' vi.ownBlock) (hv : v.ownBlock = vi.ownBlock ∨ v.ownBlock = some w.heap.size) : LRow B v vw Z Y w' := by
  refine ⟨ho, World.ownsRow.kept h.rw hg ?_, fun b hb e => ?_⟩
  · rcases hb : vw.ownBlock with _ | b
    · exact .inl rfl
    · exact .inr fun e => h.ne b e.symm hb
  · rcases hv with hv | hv
    · rw [hv] at hb; exact h.ne b hb e
    · rw [hv] at hb
      injection hb with hb
      have := (World.ownsRow.lt h.rw b e).2
      omega

set_option maxRecDepth 100000 in
set_option maxHeartbeats 8000000 in
theorem mappingLetters_walk (p0 : Option Addr) (cap0 : Nat) (zs0 : List Int) (p1 : Option Addr) (cap1 : Nat) (bs : List Int) (w : World) (hin0 : IntsIn w p0 zs0) (hl0 : zs0.length ≤ 17592186043904) (hin1 : RowIn .u8 w p1 bs) (hl1 : bs.length ≤ 140737488351232) (hby : ∀ z ∈ bs, (Lit.int .u8 z).wf = true) (hr : Rsv w) :
    Calls Tryd.prog 6 #[.slice p0 zs0.length cap0, .slice p1 bs.length cap1] w (Gives (.bool true) w) := by
  have HI0 := Lib.hid hin0
  have HL0 := Lib.hid hl0
  have HR := Lib.hid hr
  have HI1 := Lib.hid hin1
  have HBY := Lib.hid hby
  obtain ⟨nb, hnb⟩ : ∃ n, bs.length = n := ⟨_, rfl⟩
  rw [hnb] at hl1 ⊢
  have HNB := Lib.hid hnb
  clear hin0 hl0 hr hin1 hby hnb
  go_enter Tryd.func6, Tryd.ntmps6
  go_wp2_with fail
  refine (tables_any p0 cap0 zs0 _ HI0.out HL0.out).mono ?_
  rintro e w1 ⟨⟨a0, a1, a2, a3, a4, a5, a6, a7, a8, a9, a10, a11⟩, T, rfl, htv, hm, hcap1, hb1⟩
  obtain ⟨pa0, na0, qa0, hsl0⟩ : Slc a0 := htv.cat.slc
  subst hsl0
  obtain ⟨pa1, na1, qa1, hsl1⟩ : Slc a1 := htv.cls.slc
  subst hsl1
  obtain ⟨pa2, na2, qa2, hsl2⟩ : Slc a2 := htv.joi.slc
  subst hsl2
  obtain ⟨pa3, na3, qa3, hsl3⟩ : Slc a3 := htv.bid.slc
  subst hsl3
  obtain ⟨pa4, na4, qa4, hsl4⟩ : Slc a4 := htv.scr.slc
  subst hsl4
  obtain ⟨pa5, na5, qa5, hsl5⟩ : Slc a5 := htv.sta.slc
  subst hsl5
  obtain ⟨pa6, na6, qa6, hsl6⟩ : Slc a6 := htv.ign.slc
  subst hsl6
  obtain ⟨pa7, na7, qa7, hsl7⟩ : Slc a7 := htv.ext.slc
  subst hsl7
  obtain ⟨pa8, na8, qa8, hsl8⟩ : Slc a8 := htv.map.slc
  subst hsl8
  obtain ⟨pa9, na9, qa9, hsl9⟩ : Slc a9 := htv.dec.slc
  subst hsl9
  obtain ⟨pa10, na10, qa10, hsl10⟩ : Slc a10 := htv.exc.slc
  subst hsl10
  obtain ⟨pa11, na11, qa11, hsl11⟩ : Slc a11 := htv.pro.slc
  subst hsl11
  have hba1 : Below w1.heap.size w1 (w1.alloc (.cells (tabCells ⟨.slice pa0 na0 qa0, .slice pa1 na1 qa1, .slice pa2 na2 qa2, .slice pa3 na3 qa3, .slice pa4 na4 qa4, .slice pa5 na5 qa5, .slice pa6 na6 qa6, .slice pa7 na7 qa7, .slice pa8 na8 qa8, .slice pa9 na9 qa9, .slice pa10 na10 qa10, .slice pa11 na11 qa11⟩) 26)) := (Below.refl _ _).alloc (Nat.le_refl _) _
  have HT1 : Hid (TabV (w1.alloc (.cells (tabCells ⟨.slice pa0 na0 qa0, .slice pa1 na1 qa1, .slice pa2 na2 qa2, .slice pa3 na3 qa3, .slice pa4 na4 qa4, .slice pa5 na5 qa5, .slice pa6 na6 qa6, .slice pa7 na7 qa7, .slice pa8 na8 qa8, .slice pa9 na9 qa9, .slice pa10 na10 qa10, .slice pa11 na11 qa11⟩) 26)) ⟨.slice pa0 na0 qa0, .slice pa1 na1 qa1, .slice pa2 na2 qa2, .slice pa3 na3 qa3, .slice pa4 na4 qa4, .slice pa5 na5 qa5, .slice pa6 na6 qa6, .slice pa7 na7 qa7, .slice pa8 na8 qa8, .slice pa9 na9 qa9, .slice pa10 na10 qa10, .slice pa11 na11 qa11⟩ T) := htv.below hba1
  have HX1 : Hid (BoxT (w1.alloc (.cells (tabCells ⟨.slice pa0 na0 qa0, .slice pa1 na1 qa1, .slice pa2 na2 qa2, .slice pa3 na3 qa3, .slice pa4 na4 qa4, .slice pa5 na5 qa5, .slice pa6 na6 qa6, .slice pa7 na7 qa7, .slice pa8 na8 qa8, .slice pa9 na9 qa9, .slice pa10 na10 qa10, .slice pa11 na11 qa11⟩) 26)) w1.heap.size ⟨.slice pa0 na0 qa0, .slice pa1 na1 qa1, .slice pa2 na2 qa2, .slice pa3 na3 qa3, .slice pa4 na4 qa4, .slice pa5 na5 qa5, .slice pa6 na6 qa6, .slice pa7 na7 qa7, .slice pa8 na8 qa8, .slice pa9 na9 qa9, .slice pa10 na10 qa10, .slice pa11 na11 qa11⟩) := BoxT.new _ _ _
  have HB1 : Hid (Below w.heap.size w (w1.alloc (.cells (tabCells ⟨.slice pa0 na0 qa0, .slice pa1 na1 qa1, .slice pa2 na2 qa2, .slice pa3 na3 qa3, .slice pa4 na4 qa4, .slice pa5 na5 qa5, .slice pa6 na6 qa6, .slice pa7 na7 qa7, .slice pa8 na8 qa8, .slice pa9 na9 qa9, .slice pa10 na10 qa10, .slice pa11 na11 qa11⟩) 26))) := hb1.trans (hba1.mono hb1.size)
  have HM := Lib.hid hm
  have HCAP : Hid (CapOf ⟨.slice pa0 na0 qa0, .slice pa1 na1 qa1, .slice pa2 na2 qa2, .slice pa3 na3 qa3, .slice pa4 na4 qa4, .slice pa5 na5 qa5, .slice pa6 na6 qa6, .slice pa7 na7 qa7, .slice pa8 na8 qa8, .slice pa9 na9 qa9, .slice pa10 na10 qa10, .slice pa11 na11 qa11⟩) := hcap1
  clear htv hm hcap1 hb1 hba1
  simp only [tabCells] at HT1 HX1 HB1
  go_wp2_with fail
  generalize (w1.alloc (.cells #[.slice pa0 na0 qa0, .slice pa1 na1 qa1, .slice pa2 na2 qa2, .slice pa3 na3 qa3, .slice pa4 na4 qa4, .slice pa5 na5 qa5, .slice pa6 na6 qa6, .slice pa7 na7 qa7, .slice pa8 na8 qa8, .slice pa9 na9 qa9, .slice pa10 na10 qa10, .slice pa11 na11 qa11] 26)) = W at HT1 HX1 HB1 ⊢
  generalize w1.heap.size = g at HX1 ⊢
  generalize (⟨.slice pa0 na0 qa0, .slice pa1 na1 qa1, .slice pa2 na2 qa2, .slice pa3 na3 qa3, .slice pa4 na4 qa4, .slice pa5 na5 qa5, .slice pa6 na6 qa6, .slice pa7 na7 qa7, .slice pa8 na8 qa8, .slice pa9 na9 qa9, .slice pa10 na10 qa10, .slice pa11 na11 qa11⟩ : TV) = x at HT1 HX1 HCAP
  have HE : Hid (LEnv w g x T W) := ⟨HT1.out, HX1.out, HB1.out⟩
  clear HT1 HX1 HB1
  go_loopw [6, 7, 8] (fun vi vw i wr => ∃ k : Nat, k ≤ nb ∧ k ≤ 60 ∧ i = .int .i64 k ∧ Hid (LRow W.heap.size vi vw (inL (bs.take k)) (wantL (bs.take k)) wr) ∧ Hid (Below W.heap.size W wr)) (fun _ _ i _ => 60 - (intOf i).toNat)
  case atStart => exact ⟨0, Nat.zero_le _, Nat.zero_le _, rfl, by simpa [Hid, inL, wantL] using (⟨Ints.nil _ _, Ints.nil _ _, fun b hb => by cases hb⟩ : LRow W.heap.size (.slice none 0 0) (.slice none 0 0) [] [] W), Below.refl _ _⟩
  case round =>
    obtain ⟨k, hk, hk60, rfl, hrow, hbel⟩ := hrel
    by_cases hlt : k < nb ∧ k < 60
    · obtain ⟨hlt, hlt60⟩ := hlt
      have hkl : k < bs.length := by rw [HNB.out]; exact hlt
      obtain ⟨b, off, rfl, hck⟩ := (HI1.out.below (HE.out.step hbel.out).bel) k hkl
      obtain ⟨z, hz⟩ : ∃ z, bs.getD k 0 = z := ⟨_, rfl⟩
      rw [hz] at hck
      have hwf := HBY.out z (by rw [← hz]; simp [hkl])
      have hz0 : 0 ≤ z ∧ z ≤ 255 := by simp only [Lit.wf, Bool.and_eq_true, decide_eq_true_eq] at hwf; exact hwf
      obtain ⟨hz0, hz255⟩ := hz0
      have HIS := Lib.hid (inL_snoc bs k hkl)
      have HWS := Lib.hid (wantL_snoc bs k hkl)
      rw [hz] at HIS HWS
      have hli : (inL (bs.take k)).length ≤ 60 := by unfold inL; simp; omega
      have hlw : (wantL (bs.take k)).length ≤ 60 := by unfold wantL; simp; omega
      have HLI := Lib.hid hli
      have HLW := Lib.hid hlw
      obtain ⟨q, hq⟩ : ∃ q, z % 26 = q := ⟨_, rfl⟩
      have hq0 : 0 ≤ q ∧ q < 26 := by omega
      obtain ⟨hq0, hq26⟩ := hq0
      rw [hq] at HIS HWS
      have hqt : z.tmod 26 = q := by rw [Int.tmod_eq_emod_of_nonneg hz0]; exact hq
      have hzw : IntKind.i64.wrap z = z := IntWalk.i64_in _ (by omega)
      obtain ⟨c, hc⟩ : ∃ c, 97 + q = c := ⟨_, rfl⟩
      have hcw : IntKind.i64.wrap c = c := IntWalk.i64_in _ (by omega)
      have hc97 : 97 ≤ c ∧ c ≤ 122 := by omega
      obtain ⟨hc97, hc122⟩ := hc97
      rw [hc] at HIS HWS
      have hba := (Below.refl wr.heap.size wr).alloc (Nat.le_refl _) (.cells #[.int .i64 c] 3)
      have HR1 := Lib.hid (hrow.out.below hba)
      have HB1 := Lib.hid (hbel.out.alloc hbel.out.size (.cells #[.int .i64 c] 3))
      have hsz : W.heap.size ≤ (wr.alloc (.cells #[.int .i64 c] 3)).heap.size := HB1.out.size
      have hd1 : decide ((k : Int) < (nb : Int)) = true := decide_eq_true (by omega)
      have hd2 : decide ((k : Int) < 60) = true := decide_eq_true (by omega)
      have HZ := Lib.hid hz
      clear hz hwf hli hlw hba hkl
      have HLD : Hid (∀ w', Below W.heap.size W w' → w'.cell? ⟨b, off + k, none⟩ = some (.int .u8 z)) := fun w' hb => by
        obtain ⟨b2, off2, e2, hck2⟩ := (HI1.out.below (HE.out.step hb).bel) k (by rw [HNB.out]; exact hlt)
        injection e2 with e2
        injection e2 with e2 e3 _
        subst e2
        subst e3
        rw [HZ.out] at hck2
        exact hck2
      clear hsz
      obtain ⟨c2, hc2⟩ : ∃ d, (if 128 ≤ z then c - 32 else c) = d := ⟨_, rfl⟩
      rw [hc2] at HIS
      by_cases h128 : 128 ≤ z
      · rw [if_pos h128] at hc2
        have hcw2 : IntKind.i64.wrap c2 = c2 := IntWalk.i64_in _ (by omega)
        have dz : decide ((128 : Int) ≤ z) = true := decide_eq_true h128
        clear h128
        have HAA : Hid (∀ {v4 : Value} (w4 : World), Below W.heap.size W (wr.alloc (.cells #[.int .i64 c] 3)) → LRow W.heap.size u6 u7 (inL (bs.take k)) (wantL (bs.take k)) (wr.alloc (.cells #[.int .i64 c] 3)) → Ints w4 W.heap.size v4 (wantL (bs.take k) ++ [c]) → (wr.alloc (.cells #[.int .i64 c] 3)).grownBy w4 u7.ownBlock → (v4.ownBlock = u7.ownBlock ∨ v4.ownBlock = some (wr.alloc (.cells #[.int .i64 c] 3)).heap.size) → Below W.heap.size W (w4.alloc (.cells #[.int .i64 c2] 3)) ∧ LRow W.heap.size u6 v4 (inL (bs.take k)) (wantL (bs.take k) ++ [c]) (w4.alloc (.cells #[.int .i64 c2] 3))) := fun w4 h1 h2 h3 h4 h5 =>
          ⟨(below_appI h1 h2.rw (Nat.le_refl _) h4).alloc (below_appI h1 h2.rw (Nat.le_refl _) h4).size _, (h2.want h3 h4 h5).below ((Below.refl w4.heap.size w4).alloc (Nat.le_refl _) _)⟩
        go_wp2_with (first
          | (at_builtin; (refine wpList_append_ints_at (.tmp 32) (.tmp 34) rfl rfl W.heap.size u7 (wantL (bs.take k)) rfl HR1.out.rw (some ⟨wr.heap.size, 0, none⟩) 1 1 [c] rfl rfl (map_one wr c) (by have := HLW.out; simp; omega) HB1.out.size ?_); intro v4 w4 ho4 hg4 hv4; have hck2 := HLD.out w4 (below_appI HB1.out HR1.out.rw (Nat.le_refl _) hg4))
          | (at_builtin; (refine wpList_append_ints_at (.tmp 43) (.tmp 45) rfl rfl W.heap.size u6 (inL (bs.take k)) rfl (HAA.out w4 HB1.out HR1.out ho4 hg4 hv4).2.ri (some ⟨w4.heap.size, 0, none⟩) 1 1 [c2] rfl rfl (map_one w4 c2) (by have := HLI.out; simp; omega) (HAA.out w4 HB1.out HR1.out ho4 hg4 hv4).1.size ?_); intro v5 w5 ho5 hg5 hv5)
          | fail)
        have HR4 : Hid (LRow W.heap.size v5 v4 (inL (bs.take (k + 1))) (wantL (bs.take (k + 1))) w5) := by unfold Hid; rw [HIS.out, HWS.out]; exact (HAA.out w4 HB1.out HR1.out ho4 hg4 hv4).2.inn ho5 hg5 hv5
        have HB4 : Hid (Below W.heap.size W w5) := below_appI (HAA.out w4 HB1.out HR1.out ho4 hg4 hv4).1 (HAA.out w4 HB1.out HR1.out ho4 hg4 hv4).2.ri (Nat.le_refl _) hg5
        clear ho5 hg5 hv5 hck2 ho4 hg4 hv4
        go_wp2
        go_roundw
        case rel => exact ⟨k + 1, by omega, by omega, by go_num, HR4, HB4⟩
        case measure => simp [intOf]; omega
      · rw [if_neg h128] at hc2
        subst hc2
        have dz : decide ((128 : Int) ≤ z) = false := decide_eq_false h128
        clear h128
        have HAA : Hid (∀ {v4 : Value} (w4 : World), Below W.heap.size W (wr.alloc (.cells #[.int .i64 c] 3)) → LRow W.heap.size u6 u7 (inL (bs.take k)) (wantL (bs.take k)) (wr.alloc (.cells #[.int .i64 c] 3)) → Ints w4 W.heap.size v4 (wantL (bs.take k) ++ [c]) → (wr.alloc (.cells #[.int .i64 c] 3)).grownBy w4 u7.ownBlock → (v4.ownBlock = u7.ownBlock ∨ v4.ownBlock = some (wr.alloc (.cells #[.int .i64 c] 3)).heap.size) → Below W.heap.size W (w4.alloc (.cells #[.int .i64 c] 3)) ∧ LRow W.heap.size u6 v4 (inL (bs.take k)) (wantL (bs.take k) ++ [c]) (w4.alloc (.cells #[.int .i64 c] 3))) := fun w4 h1 h2 h3 h4 h5 =>
          ⟨(below_appI h1 h2.rw (Nat.le_refl _) h4).alloc (below_appI h1 h2.rw (Nat.le_refl _) h4).size _, (h2.want h3 h4 h5).below ((Below.refl w4.heap.size w4).alloc (Nat.le_refl _) _)⟩
        go_wp2_with (first
          | (at_builtin; (refine wpList_append_ints_at (.tmp 32) (.tmp 34) rfl rfl W.heap.size u7 (wantL (bs.take k)) rfl HR1.out.rw (some ⟨wr.heap.size, 0, none⟩) 1 1 [c] rfl rfl (map_one wr c) (by have := HLW.out; simp; omega) HB1.out.size ?_); intro v4 w4 ho4 hg4 hv4; have hck2 := HLD.out w4 (below_appI HB1.out HR1.out.rw (Nat.le_refl _) hg4))
          | (at_builtin; (refine wpList_append_ints_at (.tmp 43) (.tmp 45) rfl rfl W.heap.size u6 (inL (bs.take k)) rfl (HAA.out w4 HB1.out HR1.out ho4 hg4 hv4).2.ri (some ⟨w4.heap.size, 0, none⟩) 1 1 [c] rfl rfl (map_one w4 c) (by have := HLI.out; simp; omega) (HAA.out w4 HB1.out HR1.out ho4 hg4 hv4).1.size ?_); intro v5 w5 ho5 hg5 hv5)
          | fail)
        have HR4 : Hid (LRow W.heap.size v5 v4 (inL (bs.take (k + 1))) (wantL (bs.take (k + 1))) w5) := by unfold Hid; rw [HIS.out, HWS.out]; exact (HAA.out w4 HB1.out HR1.out ho4 hg4 hv4).2.inn ho5 hg5 hv5
        have HB4 : Hid (Below W.heap.size W w5) := below_appI (HAA.out w4 HB1.out HR1.out ho4 hg4 hv4).1 (HAA.out w4 HB1.out HR1.out ho4 hg4 hv4).2.ri (Nat.le_refl _) hg5
        clear ho5 hg5 hv5 hck2 ho4 hg4 hv4
        go_wp2
        go_roundw
        case rel => exact ⟨k + 1, by omega, by omega, by go_num, HR4, HB4⟩
        case measure => simp [intOf]; omega
    · by_cases h1 : k < nb
      · have hd1 : decide ((k : Int) < (nb : Int)) = true := decide_eq_true (by omega)
        have hd2 : decide ((k : Int) < 60) = false := decide_eq_false (by omega)
        have HBL := hbel.out
        have hm := let_all HM.out.check (bs.take k) (by simp; omega)
        obtain ⟨X, hX⟩ : ∃ X, inL (bs.take k) = X := ⟨_, rfl⟩
        obtain ⟨Y, hY⟩ : ∃ Y, wantL (bs.take k) = Y := ⟨_, rfl⟩
        have hxl : X.length ≤ 60 := by rw [← hX]; unfold inL; simp; omega
        have hyl : Y.length ≤ 60 := by rw [← hY]; unfold wantL; simp; omega
        rw [hX, hY] at hm
        have hrw := hrow.out
        rw [hX, hY] at hrw
        have HMM := Lib.hid hm
        obtain ⟨p6, c6, e6, hi6⟩ := hrw.ri.inn
        subst e6
        have HX := Lib.hid hi6
        have HY := Lib.hid (hrw.rw.inV (by omega))
        obtain ⟨nx, hnx⟩ : ∃ n, X.length = n := ⟨_, rfl⟩
        have hmp := fun W (h1 : TabV W x T) h2 h3 => map_at x T p6 c6 X Y 0 0 W h1 h2 h3 (by omega) HMM
        rw [hnx] at hmp ⊢
        have HMP := Lib.hid hmp
        have HYL : Hid (Y.length ≤ 17592186043904) := by unfold Hid; omega
        replace HE := Lib.hid (HE.out.step HBL)
        clear hm hX hY hrw hi6 hnx hmp hrow hbel HBL hxl hyl
        obtain ⟨⟨k0, k1, k2, k3, k4, k5⟩, ⟨k6, k7, k8, k9, k10, k11⟩⟩ := HE.out.box.load
        go_wp2_with fail
        refine (HMP.out _ HE.out.tab (HR.out.below HE.out.bel) HX.out).mono ?_
        rintro e w5 ⟨v5, rfl, ho5, hb⟩
        replace HE := Lib.hid (HE.out.step hb)
        replace HY := Lib.hid (HY.out.below hb)
        have HV5 := Lib.hid (ho5.inV HYL.out)
        clear ho5 hb HX k0 k1 k2 k3 k4 k5 k6 k7 k8 k9 k10 k11
        go_wp2_with fail
        refine (awake13_any _ (HR.out.below HE.out.bel)).mono ?_
        rintro e w6 ⟨rfl, hb⟩
        replace HE := Lib.hid (HE.out.step hb)
        replace HY := Lib.hid (HY.out.below hb)
        replace HV5 := Lib.hid (HV5.out.below hb)
        clear hb
        go_wp2_with fail
        refine (same_at v5 u7 Y Y true _ HV5.out HY.out (by simp [Hid])).mono ?_
        rintro e w7 ⟨rfl, hb⟩
        have HBZ := Lib.hid (HE.out.step hb).bel
        clear hb
        go_wp2
        go_ret
        exact ⟨rfl, HBZ.out⟩
      · have hd1 : decide ((k : Int) < (nb : Int)) = false := decide_eq_false (by omega)
        have HBL := hbel.out
        have hm := let_all HM.out.check (bs.take k) (by simp; omega)
        obtain ⟨X, hX⟩ : ∃ X, inL (bs.take k) = X := ⟨_, rfl⟩
        obtain ⟨Y, hY⟩ : ∃ Y, wantL (bs.take k) = Y := ⟨_, rfl⟩
        have hxl : X.length ≤ 60 := by rw [← hX]; unfold inL; simp; omega
        have hyl : Y.length ≤ 60 := by rw [← hY]; unfold wantL; simp; omega
        rw [hX, hY] at hm
        have hrw := hrow.out
        rw [hX, hY] at hrw
        have HMM := Lib.hid hm
        obtain ⟨p6, c6, e6, hi6⟩ := hrw.ri.inn
        subst e6
        have HX := Lib.hid hi6
        have HY := Lib.hid (hrw.rw.inV (by omega))
        obtain ⟨nx, hnx⟩ : ∃ n, X.length = n := ⟨_, rfl⟩
        have hmp := fun W (h1 : TabV W x T) h2 h3 => map_at x T p6 c6 X Y 0 0 W h1 h2 h3 (by omega) HMM
        rw [hnx] at hmp ⊢
        have HMP := Lib.hid hmp
        have HYL : Hid (Y.length ≤ 17592186043904) := by unfold Hid; omega
        replace HE := Lib.hid (HE.out.step HBL)
        clear hm hX hY hrw hi6 hnx hmp hrow hbel HBL hxl hyl
        obtain ⟨⟨k0, k1, k2, k3, k4, k5⟩, ⟨k6, k7, k8, k9, k10, k11⟩⟩ := HE.out.box.load
        go_wp2_with fail
        refine (HMP.out _ HE.out.tab (HR.out.below HE.out.bel) HX.out).mono ?_
        rintro e w5 ⟨v5, rfl, ho5, hb⟩
        replace HE := Lib.hid (HE.out.step hb)
        replace HY := Lib.hid (HY.out.below hb)
        have HV5 := Lib.hid (ho5.inV HYL.out)
        clear ho5 hb HX k0 k1 k2 k3 k4 k5 k6 k7 k8 k9 k10 k11
        go_wp2_with fail
        refine (awake13_any _ (HR.out.below HE.out.bel)).mono ?_
        rintro e w6 ⟨rfl, hb⟩
        replace HE := Lib.hid (HE.out.step hb)
        replace HY := Lib.hid (HY.out.below hb)
        replace HV5 := Lib.hid (HV5.out.below hb)
        clear hb
        go_wp2_with fail
        refine (same_at v5 u7 Y Y true _ HV5.out HY.out (by simp [Hid])).mono ?_
        rintro e w7 ⟨rfl, hb⟩
        have HBZ := Lib.hid (HE.out.step hb).bel
        clear hb
        go_wp2
        go_ret
        exact ⟨rfl, HBZ.out⟩

end Go.Proofs.YtnmckcfaalakoaaDoor
