/-
  The library's stable sort: the merge in place, whole.
-/
import Derived.Test.YtmnnpfohjffniaaQPunSrtD
import Derived.Test.YtmnnpfohjffniaaQPunSrtE
set_option linter.unusedSimpArgs false
set_option linter.unusedVariables false
namespace Go.Proofs.Ytmnnpfohjffniaa
open Go.RowKit Go.Sort
set_option linter.unusedVariables false


theorem sym_any (l : List Int) (g cap bx N : Nat) (w0 : World) (hc : CmpOk l bx g w0) (hl : N ≤ 1099511627776) : ∀ K, SymOk l g cap bx N K w0
  | 0 => fun a m b d w hK _ _ _ _ _ ham hmb => by omega
  | K + 1 => fun a m b d w hK hN hg0 hv hs hM ham hmb => by
    have IH := sym_any l g cap bx N w0 hc hl K
    by_cases h1 : m = a + 1
    · exact sym_left l g cap bx N K w0 hc hl IH a m b d w hK hN hg0 hv hs hM ham hmb h1
    · by_cases h2 : b = m + 1
      · exact sym_right l g cap bx N K w0 hc hl IH a m b d w hK hN hg0 hv hs hM ham hmb h2 (by omega)
      · by_cases h3 : (a + b) / 2 < m
        · exact sym_midP l g cap bx N K w0 hc hl IH a m b d w hK hN hg0 hv hs hM ham hmb (by omega) (by omega) h3
        · exact sym_midN l g cap bx N K w0 hc hl IH a m b d w hK hN hg0 hv hs hM ham hmb (by omega) (by omega) h3

end Go.Proofs.Ytmnnpfohjffniaa
