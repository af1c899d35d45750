/-
  The contract of utf.scalarAt.
-/
import Derived.Test.YtcpldaanffjbjaaUtfA
import Derived.Lib.Hide
namespace Go.Proofs.Ytcpldaanffjbjaa
open Go.RowKit

set_option maxHeartbeats 400000 in
theorem scalarAt_none (s : ByteArray) (at' : Nat) (w : World) (hs : s.size ≤ maxLen) (h : at' < s.size) (hn : sfN s[at'].toNat = 0 ∨ (s.size : Int) - at' < sfN s[at'].toNat) :
    Calls Try.prog 25 #[.string s, .int .i64 at'] w fun e w' => e = .returned (.tuple #[.int .i64 0, .int .i64 0]) ∧ w = w' := by
  unfold maxLen at hs
  have hb := s[at'].toNat_lt
  have hbd := sf_bd s[at'].toNat (by omega) (by omega)
  obtain ⟨hb1, hb2, hb3, hb4⟩ := hbd
  by_cases h0 : sfN s[at'].toNat = 0
  · have h1 : (sfN s[at'].toNat == 0) = true := by simp [h0]
    clear hn h0
    go_enter Try.func25, Try.ntmps25
    go_wp2_with (first
      | (go_at_call 31; refine (splitFirst_any _ _ (by omega) (by omega)).mono ?_; rintro e w' ⟨rfl, rfl⟩))
    go_ret2
    exact ⟨rfl, rfl⟩
  · have h1 : (sfN s[at'].toNat == 0) = false := by simp [h0]
    have h2 : (s.size : Int) - at' < sfN s[at'].toNat := by omega
    clear hn h0
    go_enter Try.func25, Try.ntmps25
    go_wp2_with (first
      | (go_at_call 31; refine (splitFirst_any _ _ (by omega) (by omega)).mono ?_; rintro e w' ⟨rfl, rfl⟩))
    go_ret2
    exact ⟨rfl, rfl⟩

theorem getD_at (l : List UInt8) (j : Nat) (h : j < l.length) : l.getD j 0 = l[j] := by simp [h]
theorem take_snoc_getD (l : List UInt8) (k : Nat) (h : k < l.length) : l.take (k + 1) = l.take k ++ [l.getD k 0] := by
  rw [List.take_succ_eq_append_getElem h, getD_at l k h]

theorem splitFirst_at (b : Int) (m c : Int) (w : World) (h0 : 0 ≤ b) (h1 : b ≤ 255) (hm : Hid (sfN b = m)) (hc : Hid (sfC b = c)) :
    Calls Try.prog 31 #[.int .u8 b] w fun e w' => e = .returned (.tuple #[.int .i64 c, .int .i64 m]) ∧ w = w' := by
  rw [← hm.out, ← hc.out]; exact splitFirst_any b w h0 h1

theorem conv_bytes (w : World) (s : ByteArray) : ∃ b cap W', (convert 9 22 (.string s)).run Try.prog w = .ok (.slice (some ⟨b, 0, none⟩) s.size cap) W' ∧
    (∀ j (h : j < s.size), W'.cell? ⟨b, j, none⟩ = some (.int .u8 (s[j].toNat : Int))) ∧ w.heap.size ≤ b ∧ Below w.heap.size w W' := by
  refine ⟨_, _, _, run_bytes_of_string w _ _ _ s Try.underlying9 Try.underlying22 Try.underlying5, ?_, Nat.le_refl _, ?_⟩
  · intro j h
    have e : ∀ (C : Array Value) f, (w.drew.alloc (.cells C 5 f)).cell? ⟨w.heap.size, j, none⟩ = C[j]? := by
      intro C f
      have h : (w.drew.alloc (.cells C 5 f)).heap[w.heap.size]? = some (.cells C 5 f) := by
        show (w.heap.push (.cells C 5 f))[w.heap.size]? = _
        simp
      unfold World.cell?
      rw [h]
      rfl
    rw [e, bytesRow_at s _ j h]
    rfl
  · exact ((Below.refl _ _).drew).alloc (Nat.le_refl _) _

/-- What scalarAt answers behind the first byte. -/
def restS (c0 : Int) (m : Int) (l : List UInt8) : Int × Int :=
  match contS c0 l with
  | none => (0, 0)
  | some c => if lenS c = m then (c, m) else (0, 0)

set_option maxRecDepth 100000 in
set_option maxHeartbeats 1000000 in
theorem scalarAt_some (s : ByteArray) (at' n : Nat) (w : World) (hs : s.size ≤ maxLen) (h : at' < s.size) (hm : Hid (sfN s[at'].toNat = n + 1)) (hm2 : n + 1 + at' ≤ s.size) (hm4 : n ≤ 3) :
    Calls Try.prog 25 #[.string s, .int .i64 at'] w fun e w' =>
      e = .returned (.tuple #[.int .i64 (restS (sfC s[at'].toNat) (n + 1) (s.extract (at' + 1) (at' + (n + 1))).data.toList).1, .int .i64 (restS (sfC s[at'].toNat) (n + 1) (s.extract (at' + 1) (at' + (n + 1))).data.toList).2]) ∧ Below w.heap.size w w' := by
  unfold maxLen at hs
  have hb := s[at'].toNat_lt
  have h1 : ((n : Int) + 1 == 0) = false := by simp; omega
  obtain ⟨b, cap, W, hcv, hcell, hbb, hbel⟩ := conv_bytes w (s.extract (at' + 1) (at' + (n + 1)))
  have hsz : (s.extract (at' + 1) (at' + (n + 1))).size = n := by simp; omega
  obtain ⟨hc0, hc1, _, _⟩ := sf_bd s[at'].toNat (by omega) (by omega)
  rw [hsz] at hcv
  obtain ⟨C, hC⟩ : ∃ C, sfC s[at'].toNat = C := ⟨_, rfl⟩
  obtain ⟨X, hX⟩ : ∃ X, (s.extract (at' + 1) (at' + (n + 1))).data.toList = X := ⟨_, rfl⟩
  have hlen : X.length = n := by rw [← hX]; exact hsz
  have hcell' : ∀ j (h : j < n), W.cell? ⟨b, j, none⟩ = some (.int .u8 ((X.getD j 0).toNat : Int)) := by
    intro j hj
    rw [hcell j (by omega)]
    subst hX
    rw [getD_at _ _ (by rw [hlen]; exact hj)]
    rfl
  rw [hC, hX]
  rw [hC] at hc0 hc1
  have HC := Lib.hid hC
  have Hcell := Lib.hid hcell'
  have Hlen := Lib.hid hlen
  clear hC hX hcell hcell' hsz hlen
  go_enter Try.func25, Try.ntmps25
  go_wp2_with (first
    | (go_at_call 31; refine (splitFirst_at _ (n + 1) C _ (by omega) (by omega) hm HC).mono ?_; rintro e w' ⟨rfl, rfl⟩))
  go_loop [4, 5, 34] (fun c z i => ∃ k : Nat, ∃ d : Int, k ≤ n ∧ i = .int .i64 k ∧ c = .int .i64 d ∧ z = .int .i64 (n + 1) ∧ Hid (contS C (X.take k) = some d)) (fun _ _ i => n - (intOf i).toNat)
  case atStart => exact ⟨0, C, Nat.zero_le _, rfl, rfl, rfl, by simp [Hid, contS]⟩
  case round =>
    obtain ⟨k, d, hk, rfl, rfl, rfl, hd⟩ := hrel
    obtain ⟨hd0, hd1⟩ := contS_small _ C d hd.out hc0 hc1 (by simp; omega)
    by_cases hlt : k < n
    · obtain ⟨x, hx⟩ : ∃ x, X.getD k 0 = x := ⟨_, rfl⟩
      have hcellk : W.cell? ⟨b, k, none⟩ = some (.int .u8 (x.toNat : Int)) := by rw [Hcell.out k hlt, hx]
      have hts := take_snoc_getD X k (by rw [Hlen.out]; exact hlt)
      rw [hx] at hts
      have hsn := contS_snoc x (X.take k) C
      rw [hd.out, ← hts] at hsn
      have hx8 := x.toNat_lt
      by_cases hf : 128 ≤ (x.toNat : Int) ∧ (x.toNat : Int) < 192
      · have HS : Hid (contS C (X.take (k + 1)) = some (d * 64 + ((x.toNat : Int) - 128))) := by rw [hsn]; simp [Hid, hf]
        clear hsn hts hx
        obtain ⟨hf1, hf2⟩ := hf
        have ho : bits .or .i64 (d * 64) ((x.toNat : Int) - 128) = d * 64 + ((x.toNat : Int) - 128) := i64_or6 _ _ (by omega) (by omega) (by omega) (by omega) (by omega)
        go_wp2_with (go_at_call 32; refine (isFurther_yes _ _ (by omega) (by omega)).mono ?_; rintro e w' ⟨rfl, rfl⟩)
        go_round
        case rel => exact ⟨k + 1, _, by omega, by go_num, rfl, rfl, HS⟩
        case measure => simp [intOf]; omega
      · have HS : Hid (restS C (n + 1) X = (0, 0)) := by
          have h1 : contS C X = none := by
            rw [← List.take_append_drop (k + 1) X]
            apply contS_none
            rw [hsn]
            simp [hf]
          simp [Hid, restS, h1]
        clear hsn hts hx
        have hf' : (x.toNat : Int) < 128 ∨ 192 ≤ (x.toNat : Int) := by omega
        clear hf
        go_wp2_with (go_at_call 32; refine (isFurther_no _ _ (by omega)).mono ?_; rintro e w' ⟨rfl, rfl⟩)
        go_ret2
        rw [HS.out]
        exact ⟨rfl, hbel⟩
    · obtain rfl : k = n := by omega
      have hall : contS C X = some d := by rw [← hd.out, List.take_of_length_le (by rw [Hlen.out]; omega)]
      by_cases hl : lenS d = k + 1
      · have HS : Hid (restS C (k + 1) X = (d, (k : Int) + 1)) := by simp [Hid, restS, hall, hl]
        have hl' : (lenS d != (k : Int) + 1) = false := by simp [hl]
        clear hall hl
        go_wp2_with (go_at_call 14; refine (length_any _ _).mono ?_; rintro e w' ⟨rfl, rfl⟩)
        go_ret2
        rw [HS.out]
        exact ⟨rfl, hbel⟩
      · have HS : Hid (restS C (k + 1) X = (0, 0)) := by simp [Hid, restS, hall, hl]
        have hl' : (lenS d != (k : Int) + 1) = true := by simp [hl]
        clear hall hl
        go_wp2_with (go_at_call 14; refine (length_any _ _).mono ?_; rintro e w' ⟨rfl, rfl⟩)
        go_ret2
        rw [HS.out]
        exact ⟨rfl, hbel⟩

theorem extract_take (s : ByteArray) (a b : Nat) : (s.extract a b).data.toList = (s.data.toList.drop a).take (b - a) := by
  rw [ByteArray.data_extract, Array.toList_extract]

theorem scalarAt_any (s : ByteArray) (at' : Nat) (w : World) (hs : s.size ≤ maxLen) (h : at' < s.size) :
    Calls Try.prog 25 #[.string s, .int .i64 at'] w fun e w' =>
      e = .returned (.tuple #[.int .i64 (firstS (s.data.toList.drop at')).1, .int .i64 (firstS (s.data.toList.drop at')).2]) ∧ Below w.heap.size w w' := by
  have hd : s.data.toList.drop at' = s[at'] :: s.data.toList.drop (at' + 1) := List.drop_eq_getElem_cons (by simpa using h)
  have hlen : (s.data.toList.drop (at' + 1)).length = s.size - (at' + 1) := by simp
  have hb := s[at'].toNat_lt
  have hbd := sf_bd s[at'].toNat (by omega) (by omega)
  rw [hd]
  unfold firstS
  by_cases h1 : sfN s[at'].toNat = 0 ∨ ((s.data.toList.drop (at' + 1)).length : Int) + 1 < sfN s[at'].toNat
  · simp only [if_pos h1]
    exact (scalarAt_none s at' w hs h (by omega)).mono fun e w' ⟨he, hw⟩ => ⟨he, hw ▸ Below.refl _ _⟩
  · simp only [if_neg h1]
    obtain ⟨n, hn⟩ : ∃ n : Nat, sfN s[at'].toNat = (n : Int) + 1 := ⟨(sfN s[at'].toNat - 1).toNat, by omega⟩
    have hx : (s.extract (at' + 1) (at' + (n + 1))).data.toList = (s.data.toList.drop (at' + 1)).take (sfN s[at'].toNat - 1).toNat := by
      rw [hn, extract_take, show at' + (n + 1) - (at' + 1) = n by omega, show ((n : Int) + 1 - 1).toNat = n by omega]
    refine (scalarAt_some s at' n w hs h hn (by omega) (by omega)).mono ?_
    rintro e w' ⟨rfl, hw⟩
    rw [hx, hn]
    refine ⟨?_, hw⟩
    unfold restS
    split <;> rename_i hh <;> rw [hh]

end Go.Proofs.Ytcpldaanffjbjaa
