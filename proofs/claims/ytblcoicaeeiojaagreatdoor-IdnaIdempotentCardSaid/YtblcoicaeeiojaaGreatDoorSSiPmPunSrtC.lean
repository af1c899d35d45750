/- The library's stable sort: the merge of two sorted parts, in -/
import Derived.Test.YtblcoicaeeiojaaGreatDoorSSiPmPunSrtA
set_option linter.unusedSimpArgs false
set_option linter.unusedVariables false
namespace Go.Proofs.YtblcoicaeeiojaaGreatDoor
open Go.RowKit Go.Sort
theorem rotate_n (N g cap a m b : Nat) (d : Array Int) (F : Value) (w : World) (hN : Hid (d.size = N)) (hs : SRow w g cap d) (hl : N ≤ 1099511627776) (ham : a < m) (hmb : m < b) (hb : b ≤ N) :
  Calls Tryz.prog 301 #[.slice (some ⟨g,0,none⟩) N cap,.int .i64 a,.int .i64 m,.int .i64 b,F] w (SrtPost g cap d (fun d'=>(∀k,d'[k]! = rotF a m b (fun k=>d[k]!) k)∧PermIn a b d d') w):=by
 obtain rfl:=hN.out
 exact rotate_at g cap a m b d F w hs hl ham hmb hb
theorem ins_n (N : Nat) (l : List Int) (g cap bx a b : Nat) (d : Array Int) (w0 w : World) (hN : Hid (d.size = N)) (hc : CmpOk l bx g w0) (hg0 : w0.grownBy w (some g)) (hv : Val l d) (hs : SRow w g cap d) (hl : N ≤ 1099511627776) (hab : a ≤ b) (hb : b ≤ N) (hd : ∀ i j, a ≤ i → i < j → j < b → d[i]! < d[j]!) :
  Calls Tryz.prog 291 #[.slice (some ⟨g,0,none⟩) N cap,.int .i64 a,.int .i64 b,.func (.func 245) #[] #[.pointer (some ⟨bx,0,none⟩)]] w (SrtPost g cap d (fun d'=>PermIn a b d d'∧SortedIn (ltT l) a b d') w):=by
 obtain rfl:=hN.out
 exact ins_at l g cap bx a b d w0 w hc hg0 hv hs hl hab hb hd
def SymOk (l:List Int) (g cap bx N K:Nat) (w0:World):Prop :=
 ∀(a m b:Nat) (d:Array Int) (w:World),b≤a+K→Hid (d.size=N)→w0.grownBy w (some g)→Val l d→SRow w g cap d→Mrg l a m b d→a<m→m<b→
  Calls Tryz.prog 292 #[.slice (some ⟨g,0,none⟩) N cap,.int .i64 a,.int .i64 m,.int .i64 b,.func (.func 245) #[] #[.pointer (some ⟨bx,0,none⟩)]] w (SrtPost g cap d (fun d'=>PermIn a b d d'∧SortedIn (ltT l) a b d') w)
theorem rot1_step {a k:Nat} {d dk:Array Int} (h:∀p,dk[p]! = rotF a (a+1) (k+1) (fun p=>d[p]!) p) (hak:a≤k) (hk:k+1<dk.size) (p:Nat):(swp dk k (k+1))[p]! = rotF a (a+1) (k+2) (fun p=>d[p]!) p:=by
 rw[swp_get dk (by omega) hk]
 have h1:=h k
 have h2:=h (k+1)
 have h3:=h p
 unfold rotF at *
 rw[if_neg (by omega),if_pos (by omega)]at h1
 rw[if_neg (by omega),if_neg (by omega)]at h2
 by_cases e1:p=k+1
 ·rw[if_pos e1,h1,if_neg (by omega),if_pos (by omega)]
  simp only[e1];congr 1;omega
 ·rw[if_neg e1]
  by_cases e2:p=k
  ·rw[if_pos e2,h2,if_pos (by omega)]
   simp only[e2];congr 1;omega
  ·rw[if_neg e2,h3]
   by_cases c1:a≤p∧p<k
   ·rw[if_pos (by omega),if_pos (by omega)]
   ·rw[if_neg (show ¬(a≤p∧p<a+(k+1-(a+1))) by omega),if_neg (show ¬(a+(k+1-(a+1))≤p∧p<k+1) by omega),if_neg (show ¬(a≤p∧p<a+(k+2-(a+1))) by omega),if_neg (show ¬(a+(k+2-(a+1))≤p∧p<k+2) by omega)]
theorem rot2_step {m k:Nat} {d dk:Array Int} (h:∀p,dk[p]! = rotF (k+1) m (m+1) (fun p=>d[p]!) p) (hkm:k+1≤m) (hk:m<dk.size) (p:Nat):(swp dk (k+1) k)[p]! = rotF k m (m+1) (fun p=>d[p]!) p:=by
 rw[swp_get dk (by omega) (by omega)]
 have h1:=h k
 have h2:=h (k+1)
 have h3:=h p
 unfold rotF at *
 rw[if_neg (by omega),if_neg (by omega)]at h1
 rw[if_pos (by omega)]at h2
 by_cases e1:p=k
 ·rw[if_pos e1,h2,if_pos (by omega)]
  simp only[e1];congr 1;omega
 ·rw[if_neg e1]
  by_cases e2:p=k+1
  ·rw[if_pos e2,h1,if_neg (by omega),if_pos (by omega)]
   simp only[e2];congr 1;omega
  ·rw[if_neg e2,h3]
   by_cases c1:k+2≤p∧p<m+1
   ·rw[if_neg (show ¬(k+1≤p∧p<k+1+(m+1-m)) by omega),if_pos (show k+1+(m+1-m)≤p∧p<m+1 by omega),if_neg (show ¬(k≤p∧p<k+(m+1-m)) by omega),if_pos (show k+(m+1-m)≤p∧p<m+1 by omega)]
   ·rw[if_neg (show ¬(k+1≤p∧p<k+1+(m+1-m)) by omega),if_neg (show ¬(k+1+(m+1-m)≤p∧p<m+1) by omega),if_neg (show ¬(k≤p∧p<k+(m+1-m)) by omega),if_neg (show ¬(k+(m+1-m)≤p∧p<m+1) by omega)]
theorem Mrg.congr {l:List Int} {a m b:Nat} {d d':Array Int} (h:Mrg l a m b d) (hz:d'.size=d.size) (hd:∀k,a≤k→d'[k]! = d[k]!):Mrg l a m b d' where
 am:=h.am
 mb:=h.mb
 size:=by rw[hz];exact h.size
 left i j h1 h2 h3:=by rw[hd i h1,hd j (by omega)];exact h.left i j h1 h2 h3
 right i j h1 h2 h3:=by have:=h.am;rw[hd i (by omega),hd j (by omega)];exact h.right i j h1 h2 h3
 cross i j h1 h2 h3 h4:=by rw[hd i h1,hd j (by omega)];exact h.cross i j h1 h2 h3 h4
set_option maxRecDepth 100000 in
set_option maxHeartbeats 4000000 in
theorem sym_left (l : List Int) (g cap bx N K : Nat) (w0 : World) (hc : CmpOk l bx g w0) (hl : N ≤ 1099511627776) (IH : SymOk l g cap bx N K w0) (a m b : Nat) (d : Array Int) (w : World) (hK : b ≤ a + (K + 1)) (hN : Hid (d.size = N)) (hg0 : w0.grownBy w (some g)) (hv : Val l d) (hs : SRow w g cap d) (hM : Mrg l a m b d) (ham : a < m) (hmb : m < b) (h1 : m = a + 1) :
  Calls Tryz.prog 292 #[.slice (some ⟨g,0,none⟩) N cap,.int .i64 a,.int .i64 m,.int .i64 b,.func (.func 245) #[] #[.pointer (some ⟨bx,0,none⟩)]] w (SrtPost g cap d (fun d'=>PermIn a b d d'∧SortedIn (ltT l) a b d') w):=by
 have HC:=Lib.hid hc
 have HG0:=Lib.hid hg0
 have HV:=Lib.hid hv
 have HS:=Lib.hid hs
 have HM:=Lib.hid hM
 have HIH:=Lib.hid IH
 have hbN:b≤N:=by rw[←hN.out];exact hM.size
 clear hc hg0 hv hs hM IH
 have t1:((m:Int)-(a:Int)==1)=true:=by simp;omega
 have H1:=Lib.hid h1
 have hma:a+1≤m:=by omega
 clear h1
 go_enter Tryz.func292,Tryz.ntmps292
 go_wp2
 go_loopw [10,11] (fun u v wr=>∃i j:Nat,u = .int .i64 i∧v = .int .i64 j∧m≤i∧i≤j∧j≤b∧Hid (m<i→ltT l d[i-1]! d[a]! = true)∧Hid (j<b→ltT l d[j]! d[a]! = false)∧Hid (SRow wr g cap d)∧Hid (w.grownBy wr (some g))) (fun u v _=>(intOf v).toNat-(intOf u).toNat)
 case atStart=>exact⟨m,b,rfl,rfl,Nat.le_refl _,by omega,Nat.le_refl _,fun h=>by omega,fun h=>by omega,HS,grown_refl _ _⟩
 case round =>
  obtain⟨i,j,rfl,rfl,hmi,hij,hjb,hb1,hb2,hsr,hg⟩:=hrel
  by_cases hlt:i<j
  ·obtain⟨h,hh⟩:∃h,(i+j) / 2=h:=⟨_,rfl⟩
   have hih:i≤h:=by omega
   have hhj:h<j:=by omega
   have c1:=hsr.out.cell (i:=h) (by rw[hN.out];omega)
   have c2:=hsr.out.cell (i:=a) (by rw[hN.out];omega)
   obtain⟨x,hx⟩:∃x,d[h]! = x:=⟨_,rfl⟩
   obtain⟨y,hy⟩:∃y,d[a]! = y:=⟨_,rfl⟩
   have vx:=HV.out h (by rw[hN.out];omega)
   have vy:=HV.out a (by rw[hN.out];omega)
   have hcmp:=HM.out.cmp (Nat.le_refl a) ham (show m≤h by omega) (show h<b by omega)
   rw[hx,hy]at hcmp
   rw[hx]at c1 vx
   rw[hy]at c2 vy
   obtain⟨vx0,vx1⟩:=vx
   obtain⟨vy0,vy1⟩:=vy
   have hhI:((i:Int)+(j:Int)) / 2=(h:Int):=by omega
   have HX:=Lib.hid hx
   have HY:=Lib.hid hy
   have haN:a<N:=by omega
   have hhN:h<N:=by omega
   clear hx hy hh
   by_cases hcv:pcmpI l x y<0
   ·have HB1:Hid (m<h+1→ltT l d[h+1-1]! d[a]! = true):=fun _=>by rw[Nat.add_sub_cancel,HX.out,HY.out];exact hcmp.1 hcv
    obtain⟨cv,hcve⟩:∃cv,pcmpI l x y=cv:=⟨_,rfl⟩
    rw[hcve]at hcv
    have HCV:=Lib.hid hcve
    clear hcve hcmp
    go_wp2_with fail
    go_quiet ((go_at_call 245;exact Calls.quiet_of (HC.out _ (grownBy_trans HG0.out (grownBy_drewN hg.out _)) x y cv vx0 vx1 vy0 vy1 HCV)))
    go_wp2
    go_roundw
    case rel =>
     first
      | exact⟨h+1,j,by go_num,rfl,by omega,by omega,hjb,HB1,hb2,hsr.out,grownBy_drewN hg.out _⟩
      | (repeat apply Exists.intro
         refine⟨?_,rfl⟩
         first|exact⟨h+1,j,by go_num,rfl,by omega,by omega,hjb,HB1,hb2,hsr.out,grownBy_drewN hg.out _⟩|exact⟨by go_num,rfl,by omega,by omega,hjb,HB1,hb2,hsr.out,grownBy_drewN hg.out _⟩)
    case measure=>simp[intOf];omega
   ·have HB2:Hid (h<b→ltT l d[h]! d[a]! = false):=fun _=>by
     rw[HX.out,HY.out]
     cases hb:ltT l x y with
     | false=>rfl
     | true=>exact absurd (hcmp.2 hb) hcv
    obtain⟨cv,hcve⟩:∃cv,pcmpI l x y=cv:=⟨_,rfl⟩
    rw[hcve]at hcv
    have HCV:=Lib.hid hcve
    clear hcve hcmp
    go_wp2_with fail
    go_quiet ((go_at_call 245;exact Calls.quiet_of (HC.out _ (grownBy_trans HG0.out (grownBy_drewN hg.out _)) x y cv vx0 vx1 vy0 vy1 HCV)))
    go_wp2
    go_roundw
    case rel =>
     first
      | exact⟨i,h,rfl,rfl,hmi,by omega,by omega,hb1,HB2,hsr.out,grownBy_drewN hg.out _⟩
      | (repeat apply Exists.intro
         refine⟨?_,rfl⟩
         first|exact⟨i,h,rfl,rfl,hmi,by omega,by omega,hb1,HB2,hsr.out,grownBy_drewN hg.out _⟩|exact⟨rfl,rfl,hmi,by omega,by omega,hb1,HB2,hsr.out,grownBy_drewN hg.out _⟩)
    case measure=>simp[intOf];omega
  ·obtain rfl:j=i:=by omega
   obtain⟨e,he⟩:∃e,j=e+1:=⟨j-1,by omega⟩
   have heI:(j:Int)-1=(e:Int):=by omega
   have hsr0:=hsr
   have hg1:=hg
   go_wp2
   go_loopw [13] (fun u wr=>∃(k:Nat) (dk:Array Int),u = .int .i64 k∧a≤k∧k≤e∧Hid (dk.size=N)∧Hid (SRow wr g cap dk)∧Hid (∀p,dk[p]! = rotF a (a+1) (k+1) (fun p=>d[p]!) p)∧Hid (PermIn a b d dk)∧Hid (w.grownBy wr (some g))) (fun u _=>e-(intOf u).toNat)
   case atStart=>exact⟨a,d,rfl,Nat.le_refl _,by omega,hN,hsr0,fun p=>(rotF_none (.inr rfl) p).symm,permIn_refl d a b,hg1⟩
   case round =>
    obtain⟨k,dk,rfl,hak,hke,hzk,hsk,hrk,hpk,hgk⟩:=hrel
    by_cases hlt2:k<e
    ·obtain⟨k1,hk1⟩:∃k1,k+1=k1:=⟨_,rfl⟩
     have c1:=hsk.out.cell (i:=k) (by rw[hzk.out];omega)
     have c2:=hsk.out.cell (i:=k1) (by rw[hzk.out];omega)
     have f1:=hsk.out.soft k
     have f2:=hsk.out.soft k1
     have HR2:Hid (∀p,(swp dk k k1)[p]! = rotF a (a+1) (k1+1) (fun p=>d[p]!) p):=by
      unfold Hid;rw[←hk1];exact rot1_step hrk.out hak (by rw[hzk.out];omega)
     have HP2:Hid (PermIn a b d (swp dk k k1)):=permIn_trans _ _ _ _ _ hpk.out (swp_permIn dk a b k k1 (by omega) (by omega) (by omega) (by omega) (by rw[hzk.out];omega))
     have HS2:=Lib.hid (hsk.out.swp (i:=k) (j:=k1) (by rw[hzk.out];omega) (by rw[hzk.out];omega))
     have HZ2:Hid ((swp dk k k1).size=N):=by unfold Hid;rw[swp_size];exact hzk.out
     obtain⟨x,hx⟩:∃x,dk[k]! = x:=⟨_,rfl⟩
     obtain⟨y,hy⟩:∃y,dk[k1]! = y:=⟨_,rfl⟩
     rw[hx]at c1 HS2
     rw[hy]at c2 HS2
     have HG2:=Lib.hid (grown_drew (grownBy_trans hgk.out (grown2 wr g k k1 (.int .i64 y) (.int .i64 x))))
     have HS3:=Lib.hid HS2.out.drew
     have hk1I:(k:Int)+1=(k1:Int):=by omega
     have hkN:k<N:=by omega
     have hk1N:k1<N:=by omega
     have hkk:k≠k1:=by omega
     have hk1e:k1≤e:=by omega
     have hak1:a≤k1:=by omega
     have hme:e-k1<e-k:=by omega
     clear hx hy hk1 hsk hrk hpk hgk HS2
     go_wp2
     go_region
     go_wp2
     go_roundw
     case rel=>first|exact⟨k1,swp dk k k1,rfl,hak1,hk1e,HZ2,HS3,HR2,HP2,HG2⟩|(repeat apply Exists.intro;refine⟨⟨k1,swp dk k k1,rfl,hak1,hk1e,HZ2,HS3,HR2,HP2,HG2⟩,rfl⟩)
     case measure=>simpa[intOf] using hme
    ·obtain rfl:e=k:=by omega
     have HSO:Hid (SortedIn (ltT l) a b dk):=HM.out.one_left H1.out hmi hjb hb1.out hb2.out (by rw[he,H1.out];exact hrk.out)
     go_wp2
     go_end0
     exact⟨rfl,dk,hsk.out,by rw[hzk.out,hN.out],⟨hpk.out,HSO.out⟩,hgk.out⟩
set_option maxRecDepth 100000 in
set_option maxHeartbeats 4000000 in
theorem sym_right (l : List Int) (g cap bx N K : Nat) (w0 : World) (hc : CmpOk l bx g w0) (hl : N ≤ 1099511627776) (IH : SymOk l g cap bx N K w0) (a m b : Nat) (d : Array Int) (w : World) (hK : b ≤ a + (K + 1)) (hN : Hid (d.size = N)) (hg0 : w0.grownBy w (some g)) (hv : Val l d) (hs : SRow w g cap d) (hM : Mrg l a m b d) (ham : a < m) (hmb : m < b) (h1 : b = m + 1) (h2 : a + 2 ≤ m) :
  Calls Tryz.prog 292 #[.slice (some ⟨g,0,none⟩) N cap,.int .i64 a,.int .i64 m,.int .i64 b,.func (.func 245) #[] #[.pointer (some ⟨bx,0,none⟩)]] w (SrtPost g cap d (fun d'=>PermIn a b d d'∧SortedIn (ltT l) a b d') w):=by
 have HC:=Lib.hid hc
 have HG0:=Lib.hid hg0
 have HV:=Lib.hid hv
 have HS:=Lib.hid hs
 have HM:=Lib.hid hM
 have HIH:=Lib.hid IH
 have hbN:b≤N:=by rw[←hN.out];exact hM.size
 clear hc hg0 hv hs hM IH
 have t1:((m:Int)-(a:Int)==1)=false:=by simp;omega
 have t2:((b:Int)-(m:Int)==1)=true:=by simp;omega
 have H1:=Lib.hid h1
 clear h1
 go_enter Tryz.func292,Tryz.ntmps292
 go_wp2
 go_loopw [14,15] (fun u v wr=>∃i j:Nat,u = .int .i64 i∧v = .int .i64 j∧a≤i∧i≤j∧j≤m∧Hid (a<i→ltT l d[m]! d[i-1]! = false)∧Hid (j<m→ltT l d[m]! d[j]! = true)∧Hid (SRow wr g cap d)∧Hid (w.grownBy wr (some g))) (fun u v _=>(intOf v).toNat-(intOf u).toNat)
 case atStart=>exact⟨a,m,rfl,rfl,Nat.le_refl _,by omega,Nat.le_refl _,fun h=>by omega,fun h=>by omega,HS,grown_refl _ _⟩
 case round =>
  obtain⟨i,j,rfl,rfl,hmi,hij,hjb,hb1,hb2,hsr,hg⟩:=hrel
  by_cases hlt:i<j
  ·obtain⟨h,hh⟩:∃h,(i+j) / 2=h:=⟨_,rfl⟩
   have hih:i≤h:=by omega
   have hhj:h<j:=by omega
   have c1:=hsr.out.cell (i:=m) (by rw[hN.out];omega)
   have c2:=hsr.out.cell (i:=h) (by rw[hN.out];omega)
   obtain⟨x,hx⟩:∃x,d[m]! = x:=⟨_,rfl⟩
   obtain⟨y,hy⟩:∃y,d[h]! = y:=⟨_,rfl⟩
   have vx:=HV.out m (by rw[hN.out];omega)
   have vy:=HV.out h (by rw[hN.out];omega)
   have hcmp:=HM.out.cmp (show a≤h by omega) (show h<m by omega) (Nat.le_refl m) (show m<b by omega)
   rw[hx,hy]at hcmp
   rw[hx]at c1 vx
   rw[hy]at c2 vy
   obtain⟨vx0,vx1⟩:=vx
   obtain⟨vy0,vy1⟩:=vy
   have hhI:((i:Int)+(j:Int)) / 2=(h:Int):=by omega
   have HX:=Lib.hid hx
   have HY:=Lib.hid hy
   have haN:m<N:=by omega
   have hhN:h<N:=by omega
   clear hx hy hh
   by_cases hcv:pcmpI l x y<0
   ·have HB2:Hid (h<m→ltT l d[m]! d[h]! = true):=fun _=>by rw[HX.out,HY.out];exact hcmp.1 hcv
    obtain⟨cv,hcve⟩:∃cv,pcmpI l x y=cv:=⟨_,rfl⟩
    rw[hcve]at hcv
    have HCV:=Lib.hid hcve
    clear hcve hcmp
    go_wp2_with fail
    go_quiet ((go_at_call 245;exact Calls.quiet_of (HC.out _ (grownBy_trans HG0.out (grownBy_drewN hg.out _)) x y cv vx0 vx1 vy0 vy1 HCV)))
    go_wp2
    go_roundw
    case rel =>
     first
      | exact⟨i,h,rfl,rfl,hmi,by omega,by omega,hb1,HB2,hsr.out,grownBy_drewN hg.out _⟩
      | (repeat apply Exists.intro
         refine⟨?_,rfl⟩
         first|exact⟨i,h,rfl,rfl,hmi,by omega,by omega,hb1,HB2,hsr.out,grownBy_drewN hg.out _⟩|exact⟨rfl,rfl,hmi,by omega,by omega,hb1,HB2,hsr.out,grownBy_drewN hg.out _⟩)
    case measure=>simp[intOf];omega
   ·have HB1:Hid (a<h+1→ltT l d[m]! d[h+1-1]! = false):=fun _=>by
     rw[Nat.add_sub_cancel,HX.out,HY.out]
     cases hb:ltT l x y with
     | false=>rfl
     | true=>exact absurd (hcmp.2 hb) hcv
    obtain⟨cv,hcve⟩:∃cv,pcmpI l x y=cv:=⟨_,rfl⟩
    rw[hcve]at hcv
    have dcv:decide (cv<0)=false:=decide_eq_false hcv
    have HCV:=Lib.hid hcve
    clear hcve hcmp
    go_wp2_with fail
    go_quiet ((go_at_call 245;exact Calls.quiet_of (HC.out _ (grownBy_trans HG0.out (grownBy_drewN hg.out _)) x y cv vx0 vx1 vy0 vy1 HCV)))
    go_wp2
    go_roundw
    case rel =>
     first
      | exact⟨h+1,j,by go_num,rfl,by omega,by omega,hjb,HB1,hb2,hsr.out,grownBy_drewN hg.out _⟩
      | (repeat apply Exists.intro
         refine⟨?_,rfl⟩
         first|exact⟨h+1,j,by go_num,rfl,by omega,by omega,hjb,HB1,hb2,hsr.out,grownBy_drewN hg.out _⟩|exact⟨by go_num,rfl,by omega,by omega,hjb,HB1,hb2,hsr.out,grownBy_drewN hg.out _⟩)
    case measure=>simp[intOf];omega
  ·obtain rfl:j=i:=by omega
   have hsr0:=hsr
   have hg1:=hg
   go_wp2
   go_loopw [17] (fun u wr=>∃(k:Nat) (dk:Array Int),u = .int .i64 k∧j≤k∧k≤m∧Hid (dk.size=N)∧Hid (SRow wr g cap dk)∧Hid (∀p,dk[p]! = rotF k m (m+1) (fun p=>d[p]!) p)∧Hid (PermIn a b d dk)∧Hid (w.grownBy wr (some g))) (fun u _=>(intOf u).toNat)
   case atStart=>exact⟨m,d,rfl,hjb,Nat.le_refl _,hN,hsr0,fun p=>(rotF_none (.inl rfl) p).symm,permIn_refl d a b,hg1⟩
   case round =>
    obtain⟨k,dk,rfl,hjk,hkm,hzk,hsk,hrk,hpk,hgk⟩:=hrel
    by_cases hlt2:j<k
    ·obtain⟨k1,rfl⟩:∃k1,k=k1+1:=⟨k-1,by omega⟩
     have c1:=hsk.out.cell (i:=k1+1) (by rw[hzk.out];omega)
     have c2:=hsk.out.cell (i:=k1) (by rw[hzk.out];omega)
     have f1:=hsk.out.soft (k1+1)
     have f2:=hsk.out.soft k1
     have HR2:Hid (∀p,(swp dk (k1+1) k1)[p]! = rotF k1 m (m+1) (fun p=>d[p]!) p):=rot2_step hrk.out hkm (by rw[hzk.out];omega)
     have HP2:Hid (PermIn a b d (swp dk (k1+1) k1)):=permIn_trans _ _ _ _ _ hpk.out (swp_permIn dk a b (k1+1) k1 (by omega) (by omega) (by omega) (by omega) (by rw[hzk.out];omega))
     have HS2:=Lib.hid (hsk.out.swp (i:=k1+1) (j:=k1) (by rw[hzk.out];omega) (by rw[hzk.out];omega))
     have HZ2:Hid ((swp dk (k1+1) k1).size=N):=by unfold Hid;rw[swp_size];exact hzk.out
     obtain⟨x,hx⟩:∃x,dk[k1+1]! = x:=⟨_,rfl⟩
     obtain⟨y,hy⟩:∃y,dk[k1]! = y:=⟨_,rfl⟩
     rw[hx]at c1 HS2
     rw[hy]at c2 HS2
     have HG2:=Lib.hid (grown_drew (grownBy_trans hgk.out (grown2 wr g (k1+1) k1 (.int .i64 y) (.int .i64 x))))
     have HS3:=Lib.hid HS2.out.drew
     obtain⟨k2,hk2⟩:∃k2,k1+1=k2:=⟨_,rfl⟩
     have hk1I:(k2:Int)-1=(k1:Int):=by omega
     have hk2I:(k1:Int)+1=(k2:Int):=by omega
     rw[hk2]at c1 f1 HS3 HG2 HR2 HP2 HZ2 hlt2
     have HK2:=Lib.hid hk2
     have hkN:k2<N:=by omega
     have hk1N:k1<N:=by omega
     have hkk:k2≠k1:=by omega
     have hk1e:k1≤m:=by omega
     have hak1:j≤k1:=by omega
     have hme:k1<k2:=by omega
     rw[hk2]
     clear hx hy hk2 hsk hrk hpk hgk HS2 hkm hjk
     go_wp2
     go_region
     go_wp2
     go_roundw
     case rel=>first|exact⟨k1,swp dk k2 k1,rfl,hak1,hk1e,HZ2,HS3,HR2,HP2,HG2⟩|(repeat apply Exists.intro;refine⟨⟨k1,swp dk k2 k1,rfl,hak1,hk1e,HZ2,HS3,HR2,HP2,HG2⟩,rfl⟩)
     case measure=>simpa[intOf] using hme
    ·obtain rfl:j=k:=by omega
     have HSO:Hid (SortedIn (ltT l) a b dk):=HM.out.one_right H1.out hmi hjb hb1.out hb2.out (by rw[H1.out];exact hrk.out)
     go_wp2
     go_end0
     exact⟨rfl,dk,hsk.out,by rw[hzk.out,hN.out],⟨hpk.out,HSO.out⟩,hgk.out⟩
theorem sym0_bd {a m b s0 r0:Nat} (h:sym0 a m b=(s0,r0)) (ha:a+2≤m) (hb:m+2≤b):a≤s0∧s0≤r0∧r0≤m∧r0≤(a+b) / 2∧(a+b) / 2+m≤b+s0∧((a+b) / 2<m→s0=(a+b) / 2+m-b∧r0=(a+b) / 2)∧(¬(a+b) / 2<m→s0=a∧r0=m):=by
 unfold sym0 at h
 split at h
 ·injection h with h1 h2;omega
 ·injection h with h1 h2;omega
theorem Mrg.idle {l:List Int} {a m b:Nat} {d:Array Int} (h:Mrg l a m b d) (hn:¬(a<m∧m<b)):SortedIn (ltT l) a b d:=by
 have h1:=h.am
 have h2:=h.mb
 by_cases e:a=m
 ·subst e;exact h.right
 ·obtain rfl:m=b:=by omega
  exact h.left
end Go.Proofs.YtblcoicaeeiojaaGreatDoor
