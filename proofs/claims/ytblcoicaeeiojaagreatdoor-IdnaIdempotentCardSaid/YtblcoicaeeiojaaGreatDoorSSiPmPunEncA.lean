/- The library's stable sort: the merge in place, whole. The li -/
import Derived.Test.YtblcoicaeeiojaaGreatDoorSSiPunSrtD
import Derived.Test.YtblcoicaeeiojaaGreatDoorSSiPunSrtE
import Derived.Test.YtblcoicaeeiojaaGreatDoorSSiPunB
import Derived.Test.YtblcoicaeeiojaaGreatDoorSSiPmOwn
set_option linter.unusedSimpArgs false
set_option linter.unusedVariables false
namespace Go.Proofs.YtblcoicaeeiojaaGreatDoor
open Go.RowKit Go.Sort
theorem sym_any (l:List Int) (g cap bx N:Nat) (w0:World) (hc:CmpOk l bx g w0) (hl:N≤1099511627776):∀K,SymOk l g cap bx N K w0
 | 0=>fun a m b d w hK _ _ _ _ _ ham hmb=>by omega
 | K+1=>fun a m b d w hK hN hg0 hv hs hM ham hmb=>by
  have IH:=sym_any l g cap bx N w0 hc hl K
  by_cases h1:m=a+1
  ·exact sym_left l g cap bx N K w0 hc hl IH a m b d w hK hN hg0 hv hs hM ham hmb h1
  ·by_cases h2:b=m+1
   ·exact sym_right l g cap bx N K w0 hc hl IH a m b d w hK hN hg0 hv hs hM ham hmb h2 (by omega)
   ·by_cases h3:(a+b) / 2<m
    ·exact sym_midP l g cap bx N K w0 hc hl IH a m b d w hK hN hg0 hv hs hM ham hmb (by omega) (by omega) h3
    ·exact sym_midN l g cap bx N K w0 hc hl IH a m b d w hK hN hg0 hv hs hM ham hmb (by omega) (by omega) h3
def Cut (t N:Nat) (d:Array Int):Prop:=∀i j,i<t→t≤j→j<N→d[i]! < d[j]!
theorem Cut.perm {t N a b:Nat} {d d':Array Int} (h:Cut t N d) (hp:PermIn a b d d') (hN:d.size=N) (hb:b≤N) (ht:t≤a∨b≤t):Cut t N d':=by
 intro i j h1 h2 h3
 rcases ht with ht|ht
 ·rw[hp.2.1 i (.inl (by omega))]
  by_cases hj:a≤j∧j<b
  ·exact permIn_all d d' a b (fun y=>d[i]! < y) (by omega) hp (fun k k1 k2=>h i k h1 (by omega) (by omega)) j hj.1 hj.2
  ·rw[hp.2.1 j (by omega)];exact h i j h1 h2 h3
 ·rw[hp.2.1 j (.inr (by omega))]
  by_cases hi:a≤i∧i<b
  ·exact permIn_all d d' a b (fun y=>y<d[j]!) (by omega) hp (fun k k1 k2=>h k j (by omega) h2 h3) i hi.1 hi.2
  ·rw[hp.2.1 i (by omega)];exact h i j h1 h2 h3
structure Pass (l:List Int) (N z c a:Nat) (d dk:Array Int):Prop where
 at_:a=c*z
 size:dk.size=N
 sorted:∀k,k<c→SortedIn (ltT l) (k*z) (k*z+z) dk
 same:∀i,a≤i→dk[i]! = d[i]!
 cut:∀k,Cut (k*z) N dk
 perm:PermIn 0 N d dk
theorem mul_apart {z k c:Nat}:k*z≤c*z∨c*z+z≤k*z:=by
 rcases Nat.lt_or_ge c k with h|h
 ·right
  have:=Nat.mul_le_mul_right z (show c+1≤k from h)
  rw[Nat.succ_mul]at this
  exact this
 ·exact .inl (Nat.mul_le_mul_right z h)
theorem Pass.step {l:List Int} {N z c a:Nat} {d dk d':Array Int} (h:Pass l N z c a d dk) (hd:d.size=N) (hb:a+z≤N) (hp:PermIn a (a+z) dk d') (hs:SortedIn (ltT l) a (a+z) d'):Pass l N z (c+1) (a+z) d d' where
 at_:=by rw[Nat.succ_mul,←h.at_]
 size:=by rw[hp.1];exact h.size
 sorted k hk:=by
  by_cases e:k=c
  ·subst e;rw[←h.at_];exact hs
  ·have h1:=h.sorted k (by omega)
   have h2:k*z+z≤a:=by
    rw[h.at_]
    have:=Nat.mul_le_mul_right z (show k+1≤c by omega)
    rw[Nat.succ_mul]at this
    exact this
   exact SortedIn.congr h1 (fun i _ hi=>hp.2.1 i (.inl (by omega)))
 same i hi:=by rw[hp.2.1 i (.inr hi)];exact h.same i (by omega)
 cut k:=(h.cut k).perm hp h.size hb (by rw[h.at_];exact mul_apart)
 perm:=permIn_trans _ _ _ _ _ h.perm (permIn_mono dk d' a (a+z) 0 N (Nat.zero_le _) hb (by rw[h.size];exact Nat.le_refl _) hp)
structure PBlk (l:List Int) (N z:Nat) (d0 d:Array Int):Prop where
 size:d.size=N
 sorted:∀k,SortedIn (ltT l) (k*z) (min N (k*z+z)) d
 cut:∀k,Cut (k*z) N d
 perm:PermIn 0 N d0 d
theorem Pass.done {l:List Int} {N z c a:Nat} {d dk d':Array Int} (h:Pass l N z c a d dk) (hd:d.size=N) (hz:N<a+z) (hp:PermIn a N dk d') (hs:SortedIn (ltT l) a N d'):PBlk l N z d d' where
 size:=by rw[hp.1];exact h.size
 sorted k:=by
  rcases Nat.lt_trichotomy k c with e|e|e
  ·have h1:=h.sorted k e
   have h2:k*z+z≤a:=by
    rw[h.at_]
    have:=Nat.mul_le_mul_right z (show k+1≤c from e)
    rw[Nat.succ_mul]at this
    exact this
   exact SortedIn.mono (SortedIn.congr h1 (fun i _ hi=>hp.2.1 i (.inl (by omega)))) (Nat.le_refl _) (by omega)
  ·subst e;rw[←h.at_];exact SortedIn.mono hs (Nat.le_refl _) (by omega)
  ·have h2:a+z≤k*z:=by
    rw[h.at_]
    have:=Nat.mul_le_mul_right z (show c+1≤k from e)
    rw[Nat.succ_mul]at this
    exact this
   intro i j h3 h4 h5;omega
 cut k:=(h.cut k).perm hp h.size (Nat.le_refl N) (by
  rcases(mul_apart:k*z≤c*z∨c*z+z≤k*z)with e|e
  ·left;rw[h.at_];exact e
  ·right;rw[←h.at_]at e;omega)
 perm:=permIn_trans _ _ _ _ _ h.perm (permIn_mono dk d' a N 0 N (Nat.zero_le _) (Nat.le_refl N) (by rw[h.size];exact Nat.le_refl _) hp)
theorem PBlk.pass {l:List Int} {N z:Nat} {d0 d:Array Int} (h:PBlk l N z d0 d):Pass l N (2*z) 0 0 d d where
 at_:=by omega
 size:=h.size
 sorted k hk:=by omega
 same i _:=rfl
 cut k:=by have:=h.cut (k*2);rwa[Nat.mul_assoc]at this
 perm:=permIn_refl d 0 N
theorem Pass.merge {l:List Int} {N z c a b:Nat} {d0 d dk:Array Int} (hb:PBlk l N z d0 d) (h:Pass l N (2*z) c a d dk) (h1:a+z≤b) (h2:b≤N) (h3:b≤a+2*z):Mrg l a (a+z) b dk where
 am:=by omega
 mb:=h1
 size:=by rw[h.size];exact h2
 left:=by
  have e:a=c*2*z:=by rw[Nat.mul_assoc];exact h.at_
  have:=hb.sorted (c*2)
  rw[←e]at this
  exact SortedIn.congr (SortedIn.mono this (Nat.le_refl _) (by omega)) (fun i hi _=>h.same i hi)
 right:=by
  have e:a+z=(c*2+1)*z:=by rw[Nat.succ_mul,Nat.mul_assoc];rw[←h.at_]
  have:=hb.sorted (c*2+1)
  rw[←e]at this
  exact SortedIn.congr (SortedIn.mono this (Nat.le_refl _) (by omega)) (fun i hi _=>h.same i (by omega))
 cross i j i1 i2 i3 i4:=by
  have e:a+z=(c*2+1)*z:=by rw[Nat.succ_mul,Nat.mul_assoc];rw[←h.at_]
  have:=hb.cut (c*2+1) i j (by rw[←e];exact i2) (by rw[←e];exact i3) (by omega)
  rw[h.same i i1,h.same j (by omega)]
  exact this
theorem Pass.rest {l:List Int} {N z c a:Nat} {d0 d dk:Array Int} (hb:PBlk l N z d0 d) (h:Pass l N (2*z) c a d dk) (h1:N≤a+z):SortedIn (ltT l) a N dk:=by
 have e:a=c*2*z:=by rw[Nat.mul_assoc];exact h.at_
 have:=hb.sorted (c*2)
 rw[←e]at this
 exact SortedIn.congr (SortedIn.mono this (Nat.le_refl _) (by omega)) (fun i hi _=>h.same i hi)
theorem PBlk.trans {l:List Int} {N z:Nat} {d0 d d':Array Int} (h:PBlk l N z d d') (hp:PermIn 0 N d0 d):PBlk l N z d0 d':=⟨h.size,h.sorted,h.cut,permIn_trans _ _ _ _ _ hp h.perm⟩
set_option maxRecDepth 100000 in
set_option maxHeartbeats 8000000 in
theorem pstable_at (l : List Int) (g cap bx N : Nat) (d : Array Int) (w0 w : World) (hc : CmpOk l bx g w0) (hg0 : w0.grownBy w (some g)) (hv : Val l d) (hs : SRow w g cap d) (hN : Hid (d.size = N)) (hl : N ≤ 1099511627776) (hd : ∀ i j, i < j → j < N → d[i]! < d[j]!) :
  Calls Tryz.prog 278 #[.slice (some ⟨g,0,none⟩) N cap,.int .i64 N,.func (.func 245) #[] #[.pointer (some ⟨bx,0,none⟩)]] w (SrtPost g cap d (fun d'=>PermIn 0 N d d'∧SortedIn (ltT l) 0 N d') w):=by
 have HC:=Lib.hid hc
 have HG0:=Lib.hid hg0
 have HV:=Lib.hid hv
 have HS:=Lib.hid hs
 have HD:=Lib.hid hd
 have HSYM:=Lib.hid (sym_any l g cap bx N w0 hc hl N)
 clear hc hg0 hv hs hd
 go_enter Tryz.func278,Tryz.ntmps278
 go_wp2
 go_loopw [7,8] (fun u v wr=>∃(c a:Nat) (dk:Array Int),u = .int .i64 a∧v = .int .i64 ((a:Int)+20)∧a≤N∧Hid (Pass l N 20 c a d dk)∧Hid (SRow wr g cap dk)∧Hid (w.grownBy wr (some g))) (fun u _ _=>N-(intOf u).toNat)
 case atStart=>exact⟨0,0,d,rfl,rfl,Nat.zero_le _,⟨by omega,hN.out,fun k hk=>by omega,fun i _=>rfl,fun k i j h1 h2 h3=>HD.out i j (by omega) h3,permIn_refl d 0 N⟩,HS,grown_refl _ _⟩
 case round =>
  obtain⟨c,a,dk,rfl,rfl,haN,hps,hsr,hg⟩:=hrel
  have HVk:Hid (Val l dk):=HV.out.perm hps.out.perm (by rw[hN.out];exact Nat.le_refl N)
  have HNk:Hid (dk.size=N):=hps.out.size
  have HDk:Hid (∀i j,a≤i→i<j→j<N→dk[i]! < dk[j]!):=fun i j h1 h2 h3=>by rw[hps.out.same i h1,hps.out.same j (by omega)];exact HD.out i j h2 h3
  by_cases hlt:a+20≤N
  ·obtain⟨b,hb⟩:∃b,a+20=b:=⟨_,rfl⟩
   have hbI:(a:Int)+20=(b:Int):=by omega
   have hbN:b≤N:=by omega
   have HB:=Lib.hid hb
   clear hb hlt
   go_wp2_with fail
   refine(ins_n N l g cap bx a b dk w0 _ HNk HC.out (grownBy_trans HG0.out hg.out) HVk.out hsr.out hl (by have:=HB.out;omega) hbN (fun i j h1 h2 h3=>HDk.out i j h1 h2 (by omega))).mono ?_
   rintro ex w1 ⟨rfl,d1,hs1,hz1,⟨hp1,ho1⟩,hg1⟩
   have HS1:=Lib.hid hs1
   have HP1:Hid (Pass l N 20 (c+1) b d d1):=by
    unfold Hid;rw[←HB.out];rw[←HB.out]at hp1 ho1
    exact hps.out.step hN.out (by rw[HB.out];exact hbN) hp1 ho1
   have HG1:=Lib.hid (grownBy_trans hg.out hg1)
   have hab:a<b:=by have:=HB.out;omega
   clear hs1 hz1 hp1 ho1 hg1
   go_wp2
   go_roundw
   case rel=>exact⟨c+1,b,d1,rfl,rfl,hbN,HP1,HS1,HG1⟩
   case measure=>simp[intOf];omega
  ·have hn:¬((a:Int)+20≤(N:Int)):=by omega
   go_wp2_with fail
   refine(ins_n N l g cap bx a N dk w0 _ HNk HC.out (grownBy_trans HG0.out hg.out) HVk.out hsr.out hl haN (Nat.le_refl N) (fun i j h1 h2 h3=>HDk.out i j h1 h2 h3)).mono ?_
   rintro ex w1 ⟨rfl,d1,hs1,hz1,⟨hp1,ho1⟩,hg1⟩
   have HS1:=Lib.hid hs1
   have HB1:Hid (PBlk l N 20 d d1):=hps.out.done hN.out (by omega) hp1 ho1
   have HG1:=Lib.hid (grownBy_trans hg.out hg1)
   clear hs1 hz1 hp1 ho1 hg1 hps hsr hg hn hlt HDk HVk HNk
   go_wp2
   go_loopw [6] (fun u wr=>∃(z:Nat) (d2:Array Int),u = .int .i64 z∧20≤z∧z≤2*N+20∧Hid (PBlk l N z d d2)∧Hid (SRow wr g cap d2)∧Hid (w.grownBy wr (some g))) (fun u _=>N-(intOf u).toNat)
   case atStart=>exact⟨20,d1,rfl,Nat.le_refl _,by omega,HB1,HS1,HG1⟩
   case round =>
    obtain⟨z,d2,rfl,hz1,hz2,hblk,hsr,hg⟩:=hrel
    by_cases hzN:z<N
    ·obtain⟨y,hy⟩:∃y,2*z=y:=⟨_,rfl⟩
     have hyI:2*(z:Int)=(y:Int):=by omega
     have hyI2:(z:Int)*2=(y:Int):=by omega
     have HY:=Lib.hid hy
     have hzy:z<y:=by omega
     have hyN:y≤2*N+20:=by omega
     have HP0:Hid (Pass l N y 0 0 d2 d2):=by unfold Hid;rw[←hy];exact hblk.out.pass
     have HN2:Hid (d2.size=N):=hblk.out.size
     clear hy
     have hsr0:=hsr
     have hg0:=hg
     go_wp2
     go_loopw [7,8] (fun u v wr=>∃(c a:Nat) (dk:Array Int),u = .int .i64 a∧v = .int .i64 ((a:Int)+(y:Int))∧a≤N∧Hid (Pass l N y c a d2 dk)∧Hid (SRow wr g cap dk)∧Hid (w.grownBy wr (some g))) (fun u _ _=>N-(intOf u).toNat)
     case atStart=>exact⟨0,0,d2,rfl,by simp,Nat.zero_le _,HP0,hsr0,hg0⟩
     case round =>
      obtain⟨c,a,dk,rfl,rfl,haN,hps,hsk,hgk⟩:=hrel
      have HPS2:Hid (Pass l N (2*z) c a d2 dk):=by unfold Hid;rw[HY.out];exact hps.out
      have HVk:Hid (Val l dk):=(HV.out.perm hblk.out.perm (by rw[hN.out];exact Nat.le_refl N)).perm hps.out.perm (by rw[HN2.out];exact Nat.le_refl N)
      have HNk:Hid (dk.size=N):=hps.out.size
      obtain⟨m,hm⟩:∃m,a+z=m:=⟨_,rfl⟩
      have hmI:(a:Int)+(z:Int)=(m:Int):=by omega
      have HM:=Lib.hid hm
      clear hm
      by_cases hlt:a+y≤N
      ·obtain⟨b,hb⟩:∃b,a+y=b:=⟨_,rfl⟩
       have hbI:(a:Int)+(y:Int)=(b:Int):=by omega
       have hbN:b≤N:=by omega
       have HB:=Lib.hid hb
       clear hb hlt
       go_wp2_with fail
       refine(HSYM.out a m b dk _ (by omega) HNk (grownBy_trans HG0.out hgk.out) HVk.out hsk.out (by have:=HB.out;have:=HY.out;rw[←HM.out];exact HPS2.out.merge hblk.out (by omega) hbN (by omega)) (by have:=HM.out;omega) (by have:=HM.out;have:=HB.out;have:=HY.out;omega)).mono ?_
       rintro ex w2 ⟨rfl,d3,hs3,hz3,⟨hp3,ho3⟩,hg3⟩
       have HS3:=Lib.hid hs3
       have HP3:Hid (Pass l N y (c+1) b d2 d3):=by
        unfold Hid;rw[←HB.out];rw[←HB.out]at hp3 ho3
        exact hps.out.step HN2.out (by rw[HB.out];exact hbN) hp3 ho3
       have HG3:=Lib.hid (grownBy_trans hgk.out hg3)
       have hab:a<b:=by have:=HB.out;omega
       clear hs3 hz3 hp3 ho3 hg3
       go_wp2
       go_roundw
       case rel=>exact⟨c+1,b,d3,rfl,rfl,hbN,HP3,HS3,HG3⟩
       case measure=>simp[intOf];omega
      ·have hn:¬((a:Int)+(y:Int)≤(N:Int)):=by omega
       by_cases hmN:m<N
       ·go_wp2_with fail
        refine(HSYM.out a m N dk _ (by omega) HNk (grownBy_trans HG0.out hgk.out) HVk.out hsk.out (by have:=HY.out;have:=HM.out;rw[←HM.out];exact HPS2.out.merge hblk.out (by omega) (Nat.le_refl N) (by omega)) (by have:=HM.out;omega) hmN).mono ?_
        rintro ex w2 ⟨rfl,d3,hs3,hz3,⟨hp3,ho3⟩,hg3⟩
        have HS3:=Lib.hid hs3
        have HB3:Hid (PBlk l N y d d3):=(hps.out.done HN2.out (by omega) hp3 ho3).trans hblk.out.perm
        have HG3:=Lib.hid (grownBy_trans hgk.out hg3)
        clear hs3 hz3 hp3 ho3 hg3
        go_wp2
        go_roundw
        case rel=>exact⟨y,d3,rfl,by omega,by omega,HB3,HS3,HG3⟩
        case measure=>simp[intOf];omega
       ·have HB3:Hid (PBlk l N y d dk):=(hps.out.done HN2.out (by omega) (permIn_refl dk a N) (HPS2.out.rest hblk.out (by have:=HM.out;omega))).trans hblk.out.perm
        go_wp2
        go_roundw
        case rel=>exact⟨y,dk,rfl,by omega,by omega,HB3,hsk.out,hgk.out⟩
        case measure=>simp[intOf];omega
    ·have HSO:Hid (SortedIn (ltT l) 0 N d2):=by
      have:=hblk.out.sorted 0
      rw[Nat.zero_mul,Nat.zero_add,Nat.min_eq_left (by omega)]at this
      exact this
     go_wp2
     go_end0
     exact⟨rfl,d2,hsr.out,by rw[hblk.out.size,hN.out],⟨hblk.out.perm,HSO.out⟩,hg.out⟩
set_option maxHeartbeats 1000000 in
theorem sort_at (l : List Int) (g cap bx N : Nat) (d : Array Int) (w0 w : World) (hc : CmpOk l bx g w0) (hg0 : w0.grownBy w (some g)) (hv : Val l d) (hs : SRow w g cap d) (hN : Hid (d.size = N)) (hl : N ≤ 1099511627776) (hd : ∀ i j, i < j → j < N → d[i]! < d[j]!) :
  Calls Tryz.prog 244 #[.slice (some ⟨g,0,none⟩) N cap,.func (.func 245) #[] #[.pointer (some ⟨bx,0,none⟩)]] w (SrtPost g cap d (fun d'=>PermIn 0 N d d'∧SortedIn (ltT l) 0 N d') w):=by
 have HK:=Lib.hid (pstable_at l g cap bx N d w0 w hc hg0 hv hs hN hl hd)
 clear hc hg0 hv hs hd
 go_enter Tryz.func244,Tryz.ntmps244
 go_wp2_with fail
 refine HK.out.mono ?_
 rintro ex w1 ⟨rfl,d1,h⟩
 go_wp2
 go_end0
 exact⟨rfl,d1,h⟩
theorem ins_nil (F : Value) (w : World) :
  Calls Tryz.prog 291 #[.slice none 0 0,.int .i64 0,.int .i64 0,F] w fun e w'=>e = .returned (.tuple #[])∧w'=w:=by
 go_enter Tryz.func291,Tryz.ntmps291
 go_wp2
 go_loopw [8] (fun u wr=>u = .int .i64 1∧wr=w) (fun _ _=>0)
 case atStart=>exact⟨rfl,rfl⟩
 case round =>
  obtain⟨rfl,rfl⟩:=hrel
  go_wp2
  go_end0
  exact⟨rfl,rfl⟩
theorem pstable_nil (F : Value) (w : World) :
  Calls Tryz.prog 278 #[.slice none 0 0,.int .i64 0,F] w fun e w'=>e = .returned (.tuple #[])∧w'=w:=by
 go_enter Tryz.func278,Tryz.ntmps278
 go_wp2
 go_loopw [7,8] (fun u v wr=>u = .int .i64 0∧v = .int .i64 20∧wr=w) (fun _ _ _=>0)
 case atStart=>exact⟨rfl,rfl,rfl⟩
 case round =>
  obtain⟨rfl,rfl,rfl⟩:=hrel
  go_wp2_with fail
  refine(ins_nil F _).mono ?_
  rintro ex w1 ⟨rfl,rfl⟩
  go_wp2
  go_loopw [6] (fun u wr=>u = .int .i64 20∧wr=w1) (fun _ _=>0)
  case atStart=>exact⟨rfl,rfl⟩
  case round =>
   obtain⟨rfl,rfl⟩:=hrel
   go_wp2
   go_end0
   exact⟨rfl,rfl⟩
theorem sort_nil (F : Value) (w : World) :
  Calls Tryz.prog 244 #[.slice none 0 0,F] w fun e w'=>e = .returned (.tuple #[])∧w'=w:=by
 go_enter Tryz.func244,Tryz.ntmps244
 go_wp2_with fail
 refine(pstable_nil F _).mono ?_
 rintro ex w1 ⟨rfl,rfl⟩
 go_wp2
 go_end0
 exact⟨rfl,rfl⟩
theorem in_drewN {w:World} {p:Option Addr} {l:List Int} (h:IntsIn w p l) (n:Nat):IntsIn (w.drewN n) p l:=h
theorem Ints.cap {w:World} {B:Nat} {v:Value} {zs:List Int} (h:Ints w B v zs):∃p cap,v = .slice p zs.length cap∧IntsIn w p zs∧zs.length≤cap∧(∀b off,p=some ⟨b,off,none⟩→B≤b∧b<w.heap.size):=by
 obtain⟨p,cap,e,hin⟩:=h.inn
 obtain⟨h1,h2⟩:=h
 rcases h2 with⟨rfl,h3⟩|⟨g,cap2,cur,rfl,hB,hg,hn,hc,hs,ht⟩
 ·injection e with e1 e2 e3
  subst e1
  exact⟨none,cap,by rw[←e2,←e3],hin,by omega,fun b off e=>by cases e⟩
 ·cases e
  refine⟨_,_,rfl,hin,by simpa using hn,fun b off e=>?_⟩
  cases e
  exact⟨hB,(Array.getElem?_eq_some_iff.1 hg).1⟩
def IdxOf (l:List Int) (I:List Nat):Prop:=(∀a,a∈I↔a<l.length∧basB (l.getD a 0)=false)∧I.Pairwise (fun x y:Nat=>ltT l x y=true)
theorem idx_nil {l:List Int} (h:othN l l.length=[]):IdxOf l []:=by
 refine⟨fun a=>⟨fun h=>(by cases h),fun ⟨h1,h2⟩=>?_⟩,List.Pairwise.nil⟩
 have:(a:Int)∈othN l l.length:=(othN_mem l _ _).2 ⟨a,h1,rfl,h2⟩
 rw[h]at this;cases this
def PIdxPost (l:List Int) (w:World) (e:Ending) (w':World):Prop :=
 ∃(I:List Nat) (v:Value),e = .returned v∧IdxOf l I∧Ints w' w.heap.size v (I.map (fun a:Nat=>(a:Int)))∧Below w.heap.size w w'
set_option maxRecDepth 100000 in
set_option maxHeartbeats 4000000 in
theorem others_at (p : Option Addr) (n cap : Nat) (l : List Int) (w : World) (hin : IntsIn w p l) (hn : Hid (l.length = n)) (hn2 : n ≤ 4096) :
  Calls Tryz.prog 175 #[.slice p n cap] w (PIdxPost l w):=by
 have HI:=Lib.hid hin
 have HBX0:Hid (Below w.heap.size w (w.alloc (.cells #[.slice p n cap] 22))):=(Below.refl w.heap.size w).alloc (Nat.le_refl _) _
 obtain⟨i0,hi,hz0,hz1,hz2⟩:=info_parts Tryz.info3
 have hbc:(w.alloc (.cells #[.slice p n cap] 22)).cell? ⟨w.heap.size,0,none⟩=some (.slice p n cap):=by simp[World.cell?_alloc_new]
 have HBC:=Lib.hid hbc
 have HSZ:Hid ((w.alloc (.cells #[.slice p n cap] 22)).heap.size=w.heap.size+1):=by unfold Hid;simp
 clear hin hbc
 go_enter Tryz.func175,Tryz.ntmps175
 go_upto_region 2 with(fail)
 generalize w.alloc (.cells #[.slice p n cap] 22)=W0 at HBX0 HBC HSZ ⊢
 have hbc:=HBC.out
 go_wp2
 go_loopw [3,8] (fun vv u wr=>∃k:Nat,u = .int .i64 k∧k≤n∧Hid (Ints wr (w.heap.size+1) vv (othN l k))∧Hid (othN l k=[]→vv = .slice none 0 0)∧Hid (W0.grownBy wr none)) (fun _ u _=>n-(intOf u).toNat)
 case atStart=>exact⟨0,rfl,Nat.zero_le _,Ints.nil _ _,fun _=>rfl,pun_refl _ _⟩
 case round =>
  clear hbc
  obtain⟨k,rfl,hk,ho,hnil,hg⟩:=hrel
  by_cases hlt:k<n
  ·have hkl:k<l.length:=by rw[hn.out];exact hlt
   obtain⟨b,off,rfl,hck⟩:=((HI.out.below HBX0.out).grownNone hg.out) k hkl
   obtain⟨x,hx⟩:∃x,l.getD k 0=x:=⟨_,rfl⟩
   rw[hx]at hck
   have HO:Hid (othN l (k+1)=if basB x=true then othN l k else othN l k++[(k:Int)]):=by unfold Hid;rw[othN,hx]
   have HLN:=Lib.hid (othN_len l k)
   have HWZ:=Lib.hid hg.out.size
   clear hx hkl
   cases hbs:basB x with
   | true =>
    have HBB:=Lib.hid hbs
    rw[hbs]at HO
    have HO1:Hid (Ints wr (w.heap.size+1) u3 (othN l (k+1))):=by unfold Hid;rw[HO.out];exact ho.out
    have HN1:Hid (othN l (k+1)=[]→u3 = .slice none 0 0):=by unfold Hid;rw[HO.out];exact hnil.out
    clear hbs
    go_wp2_with (go_at_call 243;refine(isbasic_at x true _ HBB).mono ?_;rintro e w1 ⟨rfl,rfl⟩)
    go_roundw
    case rel=>exact⟨k+1,by go_num,by omega,HO1,HN1,hg.out⟩
    case measure=>simp[intOf];omega
   | false =>
    have HBB:=Lib.hid hbs
    rw[hbs]at HO
    have hown3:=ho.out
    unfold Ints at hown3
    have HOW:=Lib.hid hown3
    clear hbs hown3
    go_wp2_with (first
     | (go_at_call 243;refine(isbasic_at x false _ HBB).mono ?_;rintro e w1 ⟨rfl,rfl⟩)
     | (at_builtin;refine wpList_append_own _ rfl _ _ 22 rfl (w.heap.size+1) 3 i0 (.int .i64 0) 1 8 Tryz.underlying22 hi hz0 hz1 hz2 rfl (by decide) _ _ _ rfl (HOW.out.alloc _) ⟨_,0,none⟩ 1 1 [.int .i64 k] rfl rfl (cell_one_new _ _ _) ?c2 ?c3 ?c4 ?c5 ?_))
    case c2=>intro u hu;simp at hu;subst hu;rfl
    case c3=>have:=HLN.out;unfold maxLen;omega
    case c4=>have:=HLN.out;omega
    case c5=>have:=HWZ.out;have:=HSZ.out;simp;omega
    intro v' w4 hown4 hg4 _
    have HO4:Hid (Ints w4 (w.heap.size+1) v' (othN l (k+1))):=by unfold Hid;rw[HO.out];unfold Ints;simpa using hown4
    have HN4:Hid (othN l (k+1)=[]→v' = .slice none 0 0):=by unfold Hid;rw[HO.out];intro e;simp at e
    have HG4:Hid (W0.grownBy w4 none):=by
     have h1:W0.grownBy (World.alloc _ _) none:=grownBy_trans hg.out (World.grownBy_alloc _ (.cells #[.int .i64 k] 3) none)
     refine pun_step h1 hg4 ?_
     intro j hj _ e
     have:=(HOW.out.lt j e).1
     have:=HSZ.out
     omega
    clear hown4 hg4
    go_wp2
    go_roundw
    case rel=>exact⟨k+1,by go_num,by omega,HO4,HN4,HG4⟩
    case measure=>simp[intOf];omega
  ·obtain rfl:k=n:=by omega
   have HO:Hid (Ints wr (w.heap.size+1) u3 (othN l l.length)):=by rw[hn.out];exact ho
   have HN:Hid (othN l l.length=[]→u3 = .slice none 0 0):=by rw[hn.out];exact hnil
   have HB:Hid (Below w.heap.size w wr):=HBX0.out.grown hg.out (by have:=HSZ.out;omega) (by simp)
   by_cases h0:othN l l.length=[]
   ·obtain rfl:=HN.out h0
    have HID:=Lib.hid (idx_nil h0)
    clear h0 HN HO ho hnil
    go_wp2_with fail
    refine(sort_nil _ _).mono ?_
    rintro ex w5 ⟨rfl,rfl⟩
    go_wp2
    go_ret
    exact⟨[],_,rfl,HID.out,Ints.nil _ _,HB.out⟩
   ·obtain⟨g,cp,e,hBg,hcp,hsr⟩:=SRow.ofInts HO.out h0
    subst e
    obtain⟨d,hd⟩:∃d,(othN l l.length).toArray=d:=⟨_,rfl⟩
    have hdl:d.toList=othN l l.length:=by rw[←hd]
    have hdz:d.size=(othN l l.length).length:=by rw[←hd];simp
    rw[hd]at hsr
    obtain⟨N,hNe⟩:∃N,d.size=N:=⟨_,rfl⟩
    have HNN:=Lib.hid hNe
    have hle:=othN_len l l.length
    have HVL:Hid (Val l d):=by
     intro i hi2
     have hm:d[i]!∈othN l l.length:=by rw[←hdl,getElem!_pos d i hi2];simp
     obtain⟨a,a1,a2,_⟩:=(othN_mem l _ _).1 hm
     rw[a2];omega
    have HAS:Hid (∀i j,i<j→j<N→d[i]! < d[j]!):=by
     intro i j hij hj
     rw[←hNe]at hj
     have:=List.pairwise_iff_getElem.1 (othN_asc l l.length)
     rw[←hdl]at this
     have h3:=this i j (by simp;omega) (by simpa using hj) hij
     rw[getElem!_pos d i (by omega),getElem!_pos d j hj]
     simpa using h3
    have HCM:Hid (CmpOk l w.heap.size g wr):=by
     intro W hW x y c h1 h2 h3 h4 h5
     refine closure_at l p cap w.heap.size W ?_ ?_ (by rw[hn.out];omega) x y c h1 h2 h3 h4 h5
     ·rw[hn.out]
      exact hW.cell (hg.out.cell HBC.out (by simp)) (by simp;omega)
     ·refine((HI.out.below HBX0.out).grownNone hg.out).grown hW ?_
      intro b off e
      intro e2
      subst e2
      by_cases hl0:0<l.length
      ·obtain⟨b2,off2,e3,hc3⟩:=HI.out 0 hl0
       rw[e]at e3
       cases e3
       have:=World.block_lt_of_cell? w _ hc3
       simp only at this
       omega
      ·have:l=[]:=List.eq_nil_of_length_eq_zero (by omega)
       rw[this]at h0
       exact h0 rfl
    have HSR:=Lib.hid hsr
    have HDL:=Lib.hid hdl
    have HDZ:=Lib.hid hdz
    have hdN:N≤1099511627776:=by have:=hn.out;omega
    rw[←hdz,hNe]
    have hBg2:w.heap.size≤g:=by omega
    clear hd hdl hdz hsr hle h0 HN ho hnil HO hNe
    go_wp2_with fail
    refine(sort_at l g cp w.heap.size N d wr wr HCM.out (pun_refl _ _) HVL.out HSR.out HNN hdN HAS.out).mono ?_
    rintro ex w5 ⟨rfl,d',hs5,hz5,⟨hp5,ho5⟩,hg5⟩
    obtain⟨I,e1,e2,e3⟩:=sorted_idx l HDL.out (by rw[HNN.out];exact hp5) (by rw[HNN.out];exact ho5)
    have HI5:Hid (Ints w5 w.heap.size (.slice (some ⟨g,0,none⟩) N cp) (I.map (fun a:Nat=>(a:Int)))):=by
     unfold Hid;rw[←e1,←HNN.out,←hz5];exact hs5.toInts hBg2 hcp
    have HB5:Hid (Below w.heap.size w w5):=HB.out.grown hg5 HB.out.size (by rintro j ⟨⟩;exact hBg2)
    have HX:Hid (IdxOf l I):=⟨e2,e3⟩
    clear hs5 hz5 hp5 ho5 hg5 e1 e2 e3
    go_wp2
    go_ret
    exact⟨I,_,rfl,HX.out,HI5.out,HB5.out⟩
theorem own_ne {gb gs n c:Nat} (h:gb<gs):(Value.slice (some ⟨gb,0,none⟩) n c).ownBlock≠some gs:=by
 intro e
 have:gb=gs:=by simpa[Value.ownBlock] using e
 omega
structure EncSt (w0 w:World) (gs:Nat) (p:Option Addr) (ls:List Int) (vv:Value) (zs:List Int) (n:Int) (i P b:Nat) (later:Bool):Prop where
 st:StB w gs n i P b later
 own:OwnB w w0.heap.size vv zs
 idx:IntsIn w p ls
 bel:Below w0.heap.size w0 w
 gs0:w0.heap.size≤gs
 gsl:gs<w.heap.size
 off:vv.ownBlock≠some gs
 far:∀b off,p=some ⟨b,off,none⟩→vv.ownBlock≠some b∧b≠gs∧b<w.heap.size
theorem EncSt.drewN {w0 w:World} {gs:Nat} {p:Option Addr} {ls:List Int} {vv:Value} {zs:List Int} {n:Int} {i P b:Nat} {later:Bool} (h:EncSt w0 w gs p ls vv zs n i P b later) (m:Nat):EncSt w0 (w.drewN m) gs p ls vv zs n i P b later :=
 ⟨h.st.drewN m,h.own.kept (grownBy_drewN (pun_refl w none) m) h.own.block,in_drewN h.idx m,below_drewN h.bel m,h.gs0,h.gsl,h.off,h.far⟩
theorem EncSt.app {w0 w w' : World} {gs : Nat} {p : Option Addr} {ls : List Int} {vv v' : Value} {zs ys : List Int} {n : Int} {i P b : Nat} {later : Bool} (h : EncSt w0 w gs p ls vv zs n i P b later)
  (ho:OwnB w' w0.heap.size v' ys) (hg:w.grownBy w' vv.ownBlock) (hf:∀k,k<w.heap.size→vv.ownBlock≠some k→v'.ownBlock≠some k):EncSt w0 w' gs p ls v' ys n i P b later where
 st:=F5.grown h.st hg h.off
 own:=ho
 idx:=by
  intro k hk
  obtain⟨b,off,e,hc⟩:=h.idx k hk
  exact⟨b,off,e,hg.cell hc (Ne.symm (h.far b off e).1)⟩
 bel:=h.bel.grown hg h.bel.size (fun j hj=>h.own.base j hj)
 gs0:=h.gs0
 gsl:=Nat.lt_of_lt_of_le h.gsl hg.size
 off:=hf gs h.gsl h.off
 far b off e:=by
  obtain⟨a1,a2,a3⟩:=h.far b off e
  exact⟨hf b a3 a1,a2,Nat.lt_of_lt_of_le a3 hg.size⟩
theorem EncSt.put {w0 w w' : World} {gs : Nat} {p : Option Addr} {ls : List Int} {vv : Value} {zs : List Int} {n n' : Int} {i P b i' P' b' : Nat} {later l' : Bool} (h : EncSt w0 w gs p ls vv zs n i P b later)
  (hs:StB w' gs n' i' P' b' l') (hg:w.grownBy w' (some gs)):EncSt w0 w' gs p ls vv zs n' i' P' b' l' where
 st:=hs
 own:=h.own.kept hg h.off
 idx:=h.idx.grown hg (fun b off e=>(h.far b off e).2.1)
 bel:=h.bel.grown hg h.bel.size (by rintro j ⟨⟩;exact h.gs0)
 gs0:=h.gs0
 gsl:=Nat.lt_of_lt_of_le h.gsl hg.size
 off:=h.off
 far b off e:=by
  obtain⟨a1,a2,a3⟩:=h.far b off e
  exact⟨a1,a2,Nat.lt_of_lt_of_le a3 hg.size⟩
def StrErr (X:ByteArray) (er:Int) (w:World) (e:Ending) (w':World):Prop:=e = .returned (.tuple #[.string X,.int .i64 er])∧Below w.heap.size w w'
theorem encP_long {l:List Int} (h:256<l.length):encP l=([],7):=by unfold encP;rw[if_pos h]
theorem encP_bad {l:List Int} (h:l.length≤256) (h2:l.all scpB=false):encP l=([],3):=by unfold encP;rw[if_neg (by omega),if_pos h2]
theorem all_take_bad {l:List Int} {k:Nat} (hk:k<l.length) (h:scpB (l.getD k 0)=false):l.all scpB=false:=by
 rw[List.all_eq_false]
 exact⟨l.getD k 0,by simp[hk],by rw[h];simp⟩
theorem pall_take_snoc {l:List Int} {k:Nat} (hk:k<l.length) (h:(l.take k).all scpB=true) (h2:scpB (l.getD k 0)=true):(l.take (k+1)).all scpB=true:=by
 rw[take_snoc_int l k hk,List.all_append,h];simp only[List.all_cons,List.all_nil,h2];rfl
set_option maxRecDepth 100000 in
set_option maxHeartbeats 8000000 in
theorem pencode_at (p : Option Addr) (n cap : Nat) (l X : List Int) (er : Int) (S : ByteArray) (w : World) (hin : IntsIn w p l) (hn : Hid (l.length = n)) (hcap : n ≤ cap) (hn2 : n ≤ 17592186043904) (hE : Hid (encP l = (X, er))) (hS : Hid (strOfNums X = S)) :
  Calls Tryz.prog 114 #[.slice p n cap] w (StrErr S er w):=by
 have HI:=Lib.hid hin
 clear hin
 by_cases hbig:256<n
 ·have hE':=hE.out
  rw[encP_long (by rw[hn.out];exact hbig)]at hE'
  injection hE' with e1 e2
  subst e1;subst e2
  have HS:Hid (S=ByteArray.mk #[]):=hS.out.symm
  clear hE hS
  go_enter Tryz.func114,Tryz.ntmps114
  go_wp2
  go_ret2
  exact⟨by rw[HS.out];rfl,Below.refl _ _⟩
 have hnb:n≤256:=by omega
 clear hbig
 go_enter Tryz.func114,Tryz.ntmps114
 go_wp2
 go_loopw [16] (fun u wr=>∃k:Nat,u = .int .i64 k∧k≤n∧Hid ((l.take k).all scpB=true)∧wr=w) (fun u _=>n-(intOf u).toNat)
 case atStart=>exact⟨0,rfl,Nat.zero_le _,rfl,rfl⟩
 case round =>
  obtain⟨k,rfl,hk,ha,rfl⟩:=hrel
  by_cases hlt:k<n
  ·have hkl:k<l.length:=by rw[hn.out];exact hlt
   obtain⟨b,off,rfl,hck⟩:=HI.out k hkl
   obtain⟨x,hx⟩:∃x,l.getD k 0=x:=⟨_,rfl⟩
   rw[hx]at hck
   cases hsc:scpB x with
   | true =>
    have HA:Hid ((l.take (k+1)).all scpB=true):=pall_take_snoc hkl ha.out (by rw[hx];exact hsc)
    have HSC:=Lib.hid hsc
    clear hx hkl hsc ha
    go_wp2_with fail
    refine(len_yes x _ HSC.out).mono ?_
    rintro ex w1 ⟨⟨m,hm1,hm4,rfl⟩,rfl⟩
    have d0:((m:Int)==0)=false:=by simp;omega
    go_wp2
    go_roundw
    case rel=>exact⟨k+1,by go_num,by omega,HA,by first|rfl|trivial⟩
    case measure=>simp[intOf];omega
   | false =>
    have hE':=hE.out
    rw[encP_bad (by rw[hn.out];exact hnb) (all_take_bad hkl (by rw[hx];exact hsc))]at hE'
    injection hE' with e1 e2
    subst e1;subst e2
    have HS:Hid (S=ByteArray.mk #[]):=hS.out.symm
    have HSC:=Lib.hid hsc
    clear hx hkl hsc ha hE hS
    go_wp2_with (go_at_call 74;refine(len_no x _ HSC.out).mono ?_;rintro ex w1 ⟨rfl,rfl⟩)
    go_ret2
    exact⟨by rw[HS.out];rfl,Below.refl _ _⟩
  ·obtain rfl:k=n:=by omega
   have HA:Hid (l.all scpB=true):=by have:=ha.out;rwa[List.take_of_length_le (by rw[hn.out];exact Nat.le_refl _)]at this
   have HAS:Hid (∀c∈l,scpB c=true):=List.all_eq_true.1 HA.out
   obtain⟨PB,hPB⟩:∃PB,basS l=PB:=⟨_,rfl⟩
   have hPBl:PB.length≤k:=by rw[←hPB,←hn.out];exact placed_len _ _
   have HPB:=Lib.hid hPB
   clear ha hPB
   go_wp2_with fail
   refine(basic_at p k cap l PB _ HI.out hn (by omega) HAS HPB).mono ?_
   rintro ex w1 ⟨v1,rfl,ho1,hb1⟩
   obtain⟨gb,cb,cur,fz,rfl,hgb,hgc,_⟩:=id ho1
   have hgbl:=(Array.getElem?_eq_some_iff.1 hgc).1
   have HO1:=Lib.hid ho1
   have HB1:=Lib.hid hb1
   have HGB:=Lib.hid hgb
   have HGL:=Lib.hid hgbl
   clear ho1 hb1 hgb hgbl hgc
   go_wp2_with fail
   refine(start_at PB.length _).mono ?_
   rintro ex w2 ⟨rfl,hb2⟩
   have HO2:=Lib.hid (HO1.out.below hb2)
   have HB2:=Lib.hid (HB1.out.trans (hb2.mono HB1.out.size))
   have HGL2:=Lib.hid (Nat.lt_of_lt_of_le HGL.out hb2.size)
   clear hb2 HO1 HB1 HGL
   have HNEW:=Lib.hid (F5.new w2 (.int .i64 128) (.int .i64 0) (.int .i64 PB.length) (.int .i64 72) (.bool false) 155)
   have HO3:=Lib.hid (HO2.out.alloc (.cells #[.int .i64 128,.int .i64 0,.int .i64 PB.length,.int .i64 72,.bool false] 155))
   have HB3:=Lib.hid (HB2.out.alloc HB2.out.size (.cells #[.int .i64 128,.int .i64 0,.int .i64 PB.length,.int .i64 72,.bool false] 155))
   have HZ3:Hid ((w2.alloc (.cells #[.int .i64 128,.int .i64 0,.int .i64 PB.length,.int .i64 72,.bool false] 155)).heap.size=w2.heap.size+1):=by unfold Hid;simp
   obtain⟨gs,hgs⟩:∃gs,w2.heap.size=gs:=⟨_,rfl⟩
   have HGS:=Lib.hid hgs
   have HGS0:Hid (wr.heap.size≤gs):=by unfold Hid;rw[←hgs];exact HB2.out.size
   have HGL3:Hid (gb<gs):=by unfold Hid;rw[←hgs];exact HGL2.out
   clear HO2 HB2 HGL2
   go_upto_if 31 with(fail)
   generalize w2.alloc (.cells #[.int .i64 128,.int .i64 0,.int .i64 PB.length,.int .i64 72,.bool false] 155)=W3 at HNEW HO3 HB3 HZ3 ⊢
   rw[hgs]at HNEW HZ3
   clear hgs
   go_cut [6] (fun c wx=>Hid (OwnB wx wr.heap.size c (frontS PB))∧Hid (StB wx gs 128 0 PB.length 72 false)∧Hid (Below wr.heap.size wr wx)∧Hid (c.ownBlock≠some gs)∧Hid (gs<wx.heap.size))
   case first =>
    by_cases h0:PB.length=0
    ·have hd:decide (0<PB.length)=false:=decide_eq_false (by omega)
     have hd2:¬0<PB.length:=by omega
     have HF:Hid (frontS PB=PB):=by
      unfold Hid frontS;rw[if_pos (List.eq_nil_of_length_eq_zero h0)];simp
     go_wp2
     go_meet
     exact⟨by rw[HF.out];exact HO3,HNEW,HB3,own_ne HGL3.out,by have:=HZ3.out;unfold Hid;omega⟩
    ·have hd:0<PB.length:=by omega
     have HF:Hid (frontS PB=PB++[45]):=by
      unfold Hid frontS;rw[if_neg (fun e=>h0 (by rw[e];rfl))]
     have HW3:=Lib.hid HB3.out.size
     go_wp2_with (at_builtin;refine wpList_append_byte rfl _ _ rfl wr.heap.size _ PB rfl HO3.out 45 1 _ rfl rfl (by omega) HW3.out ?_;intro v4 w4 ho4 hg4 hf4)
     have HO4:Hid (OwnB w4 wr.heap.size v4 (frontS PB)):=by unfold Hid;rw[HF.out];exact ho4
     have HOF:Hid (v4.ownBlock≠some gs):=hf4 gs (by have:=HZ3.out;omega) (own_ne HGL3.out)
     have HST:Hid (StB w4 gs 128 0 PB.length 72 false):=F5.grown HNEW.out hg4 (own_ne HGL3.out)
     have HBE:Hid (Below wr.heap.size wr w4):=HB3.out.grown hg4 HB3.out.size (fun j hj=>HO3.out.base j hj)
     have HGZ:Hid (gs<w4.heap.size):=Nat.lt_of_lt_of_le (by have:=HZ3.out;omega) hg4.size
     clear ho4 hg4 hf4
     go_wp2
     go_meet
     exact⟨HO4,HST,HBE,HOF,HGZ⟩
   case rest =>
    obtain⟨ho,hst,hbe,hof,hgz⟩:=hcut
    go_wp2_with fail
    refine(others_at p k cap l _ (HI.out.below hbe.out) hn (by omega)).mono ?_
    rintro ex w5 ⟨I,v5,rfl,hid,hi5,hb5⟩
    obtain⟨pI,cI,rfl,hin5,hcI,hfar⟩:=hi5.cap
    have hIl:(I.map (fun a:Nat=>(a:Int))).length=I.length:=by simp
    rw[hIl]
    obtain⟨he1,hgood,hlen⟩:=encP_idx l I HA.out (by rw[hn.out];exact hnb) hid.1 hid.2
    have hXe:X=frontS PB++encI l I PB.length 128 0 72 true∧er=0:=by
     have:=hE.out
     rw[he1,HPB.out]at this
     injection this with a1 a2
     exact⟨a1.symm,a2.symm⟩
    obtain⟨hX,rfl⟩:=hXe
    rw[HPB.out]at hgood hlen
    have HFAR:=Lib.hid hfar
    have HX:Hid (frontS PB++encI l (I.drop 0) PB.length 128 0 72 (!false)=X):=by unfold Hid;rw[hX];rfl
    have HGOOD:Hid (GoodI l (I.drop 0) PB.length 128 0):=hgood
    have hIk:PB.length+I.length=k:=by have:=hn.out;omega
    have HST0:Hid (EncSt wr w5 gs pI (I.map (fun a:Nat=>(a:Int))) u6 (frontS PB) 128 0 PB.length 72 false):=by
     refine⟨F5.grown hst.out (below_grownBy hb5 none) (by simp),ho.out.below hb5,hin5,hbe.out.trans (hb5.mono hbe.out.size),HGS0.out,Nat.lt_of_lt_of_le hgz.out hb5.size,hof.out,fun b off e=>?_⟩
     obtain⟨f1,f2⟩:=hfar b off e
     have hgz2:=hgz.out
     refine⟨fun e2=>?_,by omega,f2⟩
     have:=(ho.out.lt b e2).2
     omega
    have HINS:=Lib.hid hi5
    clear hi5 hin5 hfar he1 hgood hE hX hb5 hst ho hbe hof hgz hid HNEW HO3 HB3 HZ3 HGL3 hIl
    go_wp2
    go_loopw [6,38] (fun vv u wx=>∃(j i b:Nat) (n:Int) (zs:List Int) (later:Bool),u = .int .i64 j∧j≤I.length∧0≤n∧n≤1114111∧i≤4096∧b≤70368744177664∧zs.length≤PB.length+1+100000*j∧Hid (EncSt wr wx gs pI (I.map (fun a:Nat=>(a:Int))) vv zs n i (PB.length+j) b later)∧Hid (zs++encI l (I.drop j) (PB.length+j) n i b (!later)=X)∧Hid (GoodI l (I.drop j) (PB.length+j) n i)) (fun _ u _=>I.length-(intOf u).toNat)
    case atStart=>exact⟨0,0,72,128,frontS PB,false,rfl,Nat.zero_le _,by omega,by omega,by omega,by omega,by unfold frontS;split<;>simp,HST0,HX,HGOOD⟩
    case round =>
     obtain⟨j,i,b,n,zs,later,rfl,hj,hn0,hn1,hi,hb,hzl,hst,hx,hgd⟩:=hrel
     by_cases hlt:j<I.length
     ·obtain⟨a,ha⟩:∃a,I[j]=a:=⟨_,rfl⟩
      have hdrop:I.drop j=a::I.drop (j+1):=by rw[List.drop_eq_getElem_cons hlt,ha]
      have HG:=hgd.out
      rw[hdrop]at HG
      obtain⟨hal,hnx,hplp,hs0,hs1,hg2⟩:=HG
      obtain⟨V,hV⟩:∃V:Nat,stepI l (PB.length+j) n i a=V:=⟨(stepI l (PB.length+j) n i a).toNat,by omega⟩
      rw[hV]at hs0 hs1
      obtain⟨PL,hPL⟩:∃PL,pbL l a=PL:=⟨_,rfl⟩
      have hPLa:PL≤a:=by rw[←hPL];exact pbL_le l a
      obtain⟨x,hx0⟩:∃x,l.getD a 0=x:=⟨_,rfl⟩
      have hxs:=scp_bd (HAS.out x (by rw[←hx0];simp[hal]))
      obtain⟨A,hA⟩:∃A,adaptN V (PB.length+j+1) (!later)=A:=⟨_,rfl⟩
      have hAb:A≤2199023255588:=by rw[←hA];exact adaptN_bd V _ _ (by omega)
      obtain⟨YS,hYS⟩:∃YS,(pnumS b 0 V).map pdigB=YS:=⟨_,rfl⟩
      have hYl:YS.length≤11:=by
       rw[←hYS,List.length_map]
       have:=pnumS_len b 10 0 V (by omega)
       omega
      have HX2:Hid ((zs++YS)++encI l (I.drop (j+1)) (PB.length+(j+1)) x (PL+1) A (!true)=X):=by
       unfold Hid
       rw[←hx.out,hdrop,encI,hV,Int.toNat_natCast,hYS,hA,hPL,hx0,List.append_assoc]
       rfl
      have HGD2:Hid (GoodI l (I.drop (j+1)) (PB.length+(j+1)) x (PL+1)):=by
       unfold Hid;rw[hPL,hx0]at hg2;exact hg2
      have HSV:Hid ((x-n)*(((PB.length+j:Nat):Int)+1)+(PL:Int)-(i:Int)=(V:Int)):=by
       unfold Hid;rw[←hV,stepI,hx0,hPL]
      have hak:a<k:=by have:=hn.out;omega
      obtain⟨b1,o1,rfl,c1⟩:=(HI.out.below hst.out.bel) a (by rw[hn.out];exact hak)
      obtain⟨b2,o2,e2,c2⟩:=hst.out.idx j (by simpa using hlt)
      have hjm:(I.map (fun a:Nat=>(a:Int))).getD j 0=(a:Int):=by simp[List.getD,List.getElem?_eq_getElem hlt,ha]
      rw[hjm]at c2
      rw[hx0]at c1
      subst e2
      rw[hx0]at hnx
      rw[hPL]at hplp
      have HPL:=Lib.hid hPL
      have HA2:=Lib.hid hA
      have HYS:Hid (zs++(pnumS b 0 V).map pdigB=zs++YS):=by unfold Hid;rw[hYS]
      obtain⟨PN,hPN⟩:∃PN,PB.length+j=PN:=⟨_,rfl⟩
      have hPN1:PN+1≤4096:=by omega
      have hPNj:PB.length+(j+1)=PN+1:=by omega
      rw[hPN]at hst HSV HA2 hplp
      rw[hPNj]at HX2 HGD2
      obtain⟨xs0,xs1⟩:=hxs
      clear ha hdrop hal hs0 hV hPL hx0 hA hYS hx hgd hg2 hjm hPN
      go_wp2_with fail
      go_quiet (first
       | (go_at_call 177;exact Calls.quiet_of (placedb_at _ k cap a PL l _ (in_drewN (HI.out.below hst.out.bel) _) hn (by omega) hcap hak HPL))
       | (go_at_call 176;exact Calls.quiet_of (steps_at gs n i PN b later x PL V _ (hst.out.st.drewN _) (by omega) hn0 hn1 xs0 xs1 hi (by omega) HSV)))
      have HST4:=Lib.hid (hst.out.drewN nq)
      clear hst c1 c2
      generalize World.drewN _ nq=W4 at HST4 ⊢
      have c3:=HST4.out.st.2.2.2.1
      go_wp2_with fail
      refine(appnum_at _ _ zs (zs++YS) V b _ HST4.out.bel.size HST4.out.own (by omega) (by omega) hb HYS).mono ?_
      rintro ex w6 ⟨v6,rfl,ho6,hg6,hf6⟩
      have HST6:=Lib.hid (HST4.out.app ho6 hg6 hf6)
      clear ho6 hg6 hf6 HST4 c3
      go_wp2_with fail
      obtain⟨C,hC⟩:∃C,(V+i) / (PN+1)=C:=⟨_,rfl⟩
      obtain⟨J,hJ⟩:∃J,(V+i)%(PN+1)=J:=⟨_,rfl⟩
      have HCJ:Hid (n+(C:Int)=x∧J=PL):=by
       unfold Hid;rw[←hC,←hJ];exact step_split HSV.out hnx hplp
      refine(put_at gs n i PN b later V C J A _ HST6.out.st hPN1 hn0 (by omega) hi (by omega) hC hJ HA2).mono ?_
      rintro ex w7 ⟨rfl,hs7,hg7⟩
      obtain⟨e1,e2⟩:=HCJ.out
      rw[e1,e2]at hs7
      have HST7:=Lib.hid (HST6.out.put hs7 hg7)
      clear hs7 hg7 hC hJ HCJ e1 e2 HST6
      go_wp2
      go_roundw
      case rel=>exact⟨j+1,PL+1,A,x,zs++YS,true,by go_num,by omega,xs0,xs1,by omega,by omega,by rw[List.length_append];omega,by rw[hPNj];exact HST7,by rw[hPNj];exact HX2,by rw[hPNj];exact HGD2⟩
      case measure=>simp[intOf];omega
     ·obtain rfl:j=I.length:=by omega
      have HXE:Hid (zs=X):=by
       have:=hx.out
       rw[List.drop_of_length_le (Nat.le_refl _),encI,List.append_nil]at this
       exact this
      have hcv:=conv_ownB hst.out.own
      rw[HXE.out,hS.out]at hcv
      have HB:=Lib.hid hst.out.bel
      clear hst hx hgd
      go_wp2
      go_ret2
      exact⟨rfl,HB.out⟩
end Go.Proofs.YtblcoicaeeiojaaGreatDoor
