/-
  context: contracts of the program's kinds, contents and neighbours (genCK.py).
-/
import Derived.Test.YtblcoicaeeiojaaGreatDoorSSiPmValSpec
import Derived.Test.YtblcoicaeeiojaaGreatDoorSSiPmTabW
import Derived.Test.YtblcoicaeeiojaaGreatDoorSSiPmTabK
import Derived.Test.YtblcoicaeeiojaaGreatDoorSSiPmBidFact
import Derived.BigRegion
set_option linter.unusedSimpArgs false
set_option linter.unusedVariables false
namespace Go.Proofs.YtblcoicaeeiojaaGreatDoor
open Go.RowKit
theorem bool_dec {B:Bool} {p:Prop} [Decidable p] (h:p↔B=true):B=decide p:=by cases B<;>simp_all
set_option maxRecDepth 100000 in
set_option maxHeartbeats 4000000 in
theorem ckind_at (c k : Int) (w : World) (hk : Hid (kndC c = k)) :
  Calls Tryz.prog 275 #[.int .i64 c] w (Gives (.int .i64 k) w):=by
 by_cases h183:c=183
 ·subst h183
  obtain rfl:k=1:=by rw[←hk.out];decide
  clear hk
  go_enter Tryz.func275,Tryz.ntmps275
  go_wp2
  go_ret
  exact⟨rfl,Below.refl _ _⟩
 by_cases h885:c=885
 ·subst h885
  obtain rfl:k=2:=by rw[←hk.out];decide
  clear hk
  go_enter Tryz.func275,Tryz.ntmps275
  go_wp2
  go_ret
  exact⟨rfl,Below.refl _ _⟩
 by_cases h12539:c=12539
 ·subst h12539
  obtain rfl:k=4:=by rw[←hk.out];decide
  clear hk
  go_enter Tryz.func275,Tryz.ntmps275
  go_wp2
  go_ret
  exact⟨rfl,Below.refl _ _⟩
 have d183:(c==183)=false:=by simp[h183]
 have d885:(c==885)=false:=by simp[h885]
 have d12539:(c==12539)=false:=by simp[h12539]
 by_cases q0:c<1523
 ·have g1:decide (1523≤c)=false:=decide_eq_false (by omega)
  have g3:decide (1632≤c)=false:=decide_eq_false (by omega)
  have g5:decide (1776≤c)=false:=decide_eq_false (by omega)
  obtain rfl:k=0:=by rw[←hk.out];unfold kndC;rw[if_neg h183,if_neg h885,if_neg (by omega),if_neg h12539,if_neg (by rw[arB_iff];omega),if_neg (by rw[exB_iff];omega)]
  clear h183 h885 h12539
  clear hk
  go_enter Tryz.func275,Tryz.ntmps275
  go_wp2
  go_ret
  exact⟨rfl,Below.refl _ _⟩
 by_cases q1:c<1525
 ·have g1:decide (1523≤c)=true:=decide_eq_true (by omega)
  have g2:decide (c≤1524)=true:=decide_eq_true (by omega)
  have g3:decide (1632≤c)=false:=decide_eq_false (by omega)
  have g5:decide (1776≤c)=false:=decide_eq_false (by omega)
  obtain rfl:k=3:=by rw[←hk.out];unfold kndC;rw[if_neg h183,if_neg h885,if_pos (by omega)]
  clear h183 h885 h12539
  clear hk
  go_enter Tryz.func275,Tryz.ntmps275
  go_wp2
  go_ret
  exact⟨rfl,Below.refl _ _⟩
 by_cases q2:c<1632
 ·have g1:decide (1523≤c)=true:=decide_eq_true (by omega)
  have g2:decide (c≤1524)=false:=decide_eq_false (by omega)
  have g3:decide (1632≤c)=false:=decide_eq_false (by omega)
  have g5:decide (1776≤c)=false:=decide_eq_false (by omega)
  obtain rfl:k=0:=by rw[←hk.out];unfold kndC;rw[if_neg h183,if_neg h885,if_neg (by omega),if_neg h12539,if_neg (by rw[arB_iff];omega),if_neg (by rw[exB_iff];omega)]
  clear h183 h885 h12539
  clear hk
  go_enter Tryz.func275,Tryz.ntmps275
  go_wp2
  go_ret
  exact⟨rfl,Below.refl _ _⟩
 by_cases q3:c<1642
 ·have g1:decide (1523≤c)=true:=decide_eq_true (by omega)
  have g2:decide (c≤1524)=false:=decide_eq_false (by omega)
  have g3:decide (1632≤c)=true:=decide_eq_true (by omega)
  have g4:decide (c≤1641)=true:=decide_eq_true (by omega)
  have g5:decide (1776≤c)=false:=decide_eq_false (by omega)
  obtain rfl:k=5:=by rw[←hk.out];exact kndC_ar.2 (arB_iff.2 (by omega))
  clear h183 h885 h12539
  clear hk
  go_enter Tryz.func275,Tryz.ntmps275
  go_wp2
  go_ret
  exact⟨rfl,Below.refl _ _⟩
 by_cases q4:c<1776
 ·have g1:decide (1523≤c)=true:=decide_eq_true (by omega)
  have g2:decide (c≤1524)=false:=decide_eq_false (by omega)
  have g3:decide (1632≤c)=true:=decide_eq_true (by omega)
  have g4:decide (c≤1641)=false:=decide_eq_false (by omega)
  have g5:decide (1776≤c)=false:=decide_eq_false (by omega)
  obtain rfl:k=0:=by rw[←hk.out];unfold kndC;rw[if_neg h183,if_neg h885,if_neg (by omega),if_neg h12539,if_neg (by rw[arB_iff];omega),if_neg (by rw[exB_iff];omega)]
  clear h183 h885 h12539
  clear hk
  go_enter Tryz.func275,Tryz.ntmps275
  go_wp2
  go_ret
  exact⟨rfl,Below.refl _ _⟩
 by_cases q5:c<1786
 ·have g1:decide (1523≤c)=true:=decide_eq_true (by omega)
  have g2:decide (c≤1524)=false:=decide_eq_false (by omega)
  have g3:decide (1632≤c)=true:=decide_eq_true (by omega)
  have g4:decide (c≤1641)=false:=decide_eq_false (by omega)
  have g5:decide (1776≤c)=true:=decide_eq_true (by omega)
  have g6:decide (c≤1785)=true:=decide_eq_true (by omega)
  obtain rfl:k=6:=by rw[←hk.out];exact kndC_ex.2 (exB_iff.2 (by omega))
  clear h183 h885 h12539
  clear hk
  go_enter Tryz.func275,Tryz.ntmps275
  go_wp2
  go_ret
  exact⟨rfl,Below.refl _ _⟩
 have g1:decide (1523≤c)=true:=decide_eq_true (by omega)
 have g2:decide (c≤1524)=false:=decide_eq_false (by omega)
 have g3:decide (1632≤c)=true:=decide_eq_true (by omega)
 have g4:decide (c≤1641)=false:=decide_eq_false (by omega)
 have g5:decide (1776≤c)=true:=decide_eq_true (by omega)
 have g6:decide (c≤1785)=false:=decide_eq_false (by omega)
 obtain rfl:k=0:=by rw[←hk.out];unfold kndC;rw[if_neg h183,if_neg h885,if_neg (by omega),if_neg h12539,if_neg (by rw[arB_iff];omega),if_neg (by rw[exB_iff];omega)]
 clear h183 h885 h12539
 clear hk
 go_enter Tryz.func275,Tryz.ntmps275
 go_wp2
 go_ret
 exact⟨rfl,Below.refl _ _⟩
set_option maxHeartbeats 1000000 in
theorem celem_at (p : Option Addr) (n cap : Nat) (zs : List Int) (i V : Int) (w : World) (hin : IntsIn w p zs) (HN : Hid (zs.length = n)) (hV : Hid (atC zs i = V)) :
  Calls Tryz.prog 277 #[.slice p n cap,.int .i64 i] w (Gives (.int .i64 V) w):=by
 have HI:=Lib.hid hin
 clear hin
 by_cases h1:i<0
 ·have d1:decide (i<0)=true:=decide_eq_true h1
  obtain rfl:V = -1:=by rw[←hV.out];exact atC_out (fun h=>by omega)
  clear hV
  go_enter Tryz.func277,Tryz.ntmps277
  go_wp2
  go_ret
  exact⟨rfl,Below.refl _ _⟩
 ·have d1:decide (i<0)=false:=decide_eq_false h1
  by_cases h2:(n:Int)≤i
  ·have d2:decide ((n:Int)≤i)=true:=decide_eq_true h2
   obtain rfl:V = -1:=by rw[←hV.out];exact atC_out (fun h=>by rw[HN.out]at h;omega)
   clear hV
   go_enter Tryz.func277,Tryz.ntmps277
   go_wp2
   go_ret
   exact⟨rfl,Below.refl _ _⟩
  ·have d2:decide ((n:Int)≤i)=false:=decide_eq_false h2
   obtain⟨m,rfl⟩:∃m:Nat,i=m:=⟨i.toNat,by omega⟩
   have hml:m<zs.length:=by rw[HN.out];omega
   obtain⟨b,off,rfl,hck⟩:=HI.out m hml
   have hV2:zs.getD m 0=V:=by rw[←hV.out,atC_in hml]
   rw[hV2]at hck
   have i0:(0:Int)≤(m:Int):=by omega
   have i1:(m:Int)<(n:Int):=by omega
   have i2:¬n≤m:=by omega
   clear hV hV2
   go_enter Tryz.func277,Tryz.ntmps277
   go_wp2
   go_ret
   exact⟨rfl,Below.refl _ _⟩
theorem row_three {w : World} {b : Nat} {x y z u v q : Value} {t : TypeId} (h : w.heap[b]? = some (.cells #[x, y, z] t (0, 0))) :
  (((w.setCell ⟨b,0,none⟩ u).setCell ⟨b,1,none⟩ v).setCell ⟨b,2,none⟩ q).heap[b]? = some (.cells #[u,v,q] t (0,0)):=by
 have h1:=heap_setCell_same w b 0 #[x,y,z] t u h
 have h2:=heap_setCell_same _ b 1 _ t v h1
 have h3:=heap_setCell_same _ b 2 _ t q h2
 simpa using h3
def CurB (w:World) (g:Nat) (a b c:Bool):Prop :=
 w.cell? ⟨g,0,none⟩=some (.bool a)∧w.cell? ⟨g,1,none⟩=some (.bool b)∧w.cell? ⟨g,2,none⟩=some (.bool c)∧w.frozen? ⟨g,0,none⟩=false∧w.frozen? ⟨g,1,none⟩=false∧w.frozen? ⟨g,2,none⟩=false∧g<w.heap.size
theorem CurB.new (w:World) (a b c:Bool) (ty:TypeId):CurB (w.alloc (.cells #[.bool a,.bool b,.bool c] ty)) w.heap.size a b c:=by
 refine⟨?_,?_,?_,?_,?_,?_,?_⟩<;>simp[World.cell?_alloc_new]
theorem CurB.below {w w':World} {g:Nat} {a b c:Bool} (h:CurB w g a b c) (hb:Below w.heap.size w w'):CurB w' g a b c:=by
 obtain⟨h1,h2,h3,h4,h5,h6,h7⟩:=h
 have hbl:=hb.block g h7
 exact⟨(hb.cell h7).trans h1,(hb.cell h7).trans h2,(hb.cell h7).trans h3,(World.frozen?_of_block hbl).trans h4,(World.frozen?_of_block hbl).trans h5,(World.frozen?_of_block hbl).trans h6,Nat.lt_of_lt_of_le h7 hb.size⟩
theorem CurB.set0 {w:World} {g:Nat} {a b c:Bool} (h:CurB w g a b c) (x:Bool):CurB (w.setCell ⟨g,0,none⟩ (.bool x)) g x b c:=by
 obtain⟨h1,h2,h3,h4,h5,h6,h7⟩:=h
 exact⟨World.cell?_setCell_same _ _ _ h1,(World.cell?_setCell_other _ _ _ _ (by simp)).trans h2,(World.cell?_setCell_other _ _ _ _ (by simp)).trans h3,(World.frozen?_setCell _ _ _ _).trans h4,(World.frozen?_setCell _ _ _ _).trans h5,(World.frozen?_setCell _ _ _ _).trans h6,by simpa[World.setCell] using h7⟩
theorem CurB.set1 {w:World} {g:Nat} {a b c:Bool} (h:CurB w g a b c) (x:Bool):CurB (w.setCell ⟨g,1,none⟩ (.bool x)) g a x c:=by
 obtain⟨h1,h2,h3,h4,h5,h6,h7⟩:=h
 exact⟨(World.cell?_setCell_other _ _ _ _ (by simp)).trans h1,World.cell?_setCell_same _ _ _ h2,(World.cell?_setCell_other _ _ _ _ (by simp)).trans h3,(World.frozen?_setCell _ _ _ _).trans h4,(World.frozen?_setCell _ _ _ _).trans h5,(World.frozen?_setCell _ _ _ _).trans h6,by simpa[World.setCell] using h7⟩
theorem CurB.set2 {w:World} {g:Nat} {a b c:Bool} (h:CurB w g a b c) (x:Bool):CurB (w.setCell ⟨g,2,none⟩ (.bool x)) g a b x:=by
 obtain⟨h1,h2,h3,h4,h5,h6,h7⟩:=h
 exact⟨(World.cell?_setCell_other _ _ _ _ (by simp)).trans h1,(World.cell?_setCell_other _ _ _ _ (by simp)).trans h2,World.cell?_setCell_same _ _ _ h3,(World.frozen?_setCell _ _ _ _).trans h4,(World.frozen?_setCell _ _ _ _).trans h5,(World.frozen?_setCell _ _ _ _).trans h6,by simpa[World.setCell] using h7⟩
theorem BoxT.otherC {w:World} {g k o:Nat} {v:Value} {x:TV} (h:BoxT w g x) (hne:g≠k):BoxT (w.setCell ⟨k,o,none⟩ v) g x:=by
 obtain⟨⟨h0,h1,h2,h3,h4,h5⟩,⟨h6,h7,h8,h9,h10,h11⟩⟩:=h
 have key:∀i u,w.cell? ⟨g,i,none⟩=some u→(w.setCell ⟨k,o,none⟩ v).cell? ⟨g,i,none⟩=some u:=fun i u hc=>(World.cell?_setCell_other _ _ _ _ (by simp[hne])).trans hc
 exact⟨⟨key _ _ h0,key _ _ h1,key _ _ h2,key _ _ h3,key _ _ h4,key _ _ h5⟩,⟨key _ _ h6,key _ _ h7,key _ _ h8,key _ _ h9,key _ _ h10,key _ _ h11⟩⟩
theorem Env.setc {w0 w:World} {x:TV} {T:Tb} (h:Env w0 x T w) (h0:TabV w0 x T) {k o:Nat} {v:Value} (hk:w0.heap.size<k):Env w0 x T (w.setCell ⟨k,o,none⟩ v) :=
 have hb:Below w0.heap.size w0 (w.setCell ⟨k,o,none⟩ v):=h.bel.setCell (p:=⟨k,o,none⟩) (Nat.le_of_lt hk) v
 ⟨h0.below hb,h.box.otherC (by omega),hb⟩
structure CntSt (w0 w:World) (x:TV) (T:Tb) (a b c:Bool):Prop where
 org:TabV w0 x T
 env:Env w0 x T w
 res:w.heap[w0.heap.size+1]? = some (.cells #[.bool false,.bool false,.bool false] 192 (0,0))
 cur:CurB w (w0.heap.size+2) a b c
theorem CntSt.step {w0 w w':World} {x:TV} {T:Tb} {a b c:Bool} (h:CntSt w0 w x T a b c) (hb:Below w.heap.size w w'):CntSt w0 w' x T a b c:=⟨h.org,h.env.step hb,(hb.block _ (by have:=h.cur.2.2.2.2.2.2;omega)).trans h.res,h.cur.below hb⟩
theorem CntSt.new {w:World} {x:TV} {T:Tb} (h:TabV w x T) (t2:TypeId):CntSt w (((w.alloc (.cells (tabCells x) 26)).alloc (.cells #[.bool false,.bool false,.bool false] 192)).alloc (.cells #[.bool false,.bool false,.bool false] t2)) x T false false false:=by
 have e1:(w.alloc (.cells (tabCells x) 26)).heap.size=w.heap.size+1:=by simp
 have h1:=heap_alloc_new (w.alloc (.cells (tabCells x) 26)) (.cells #[.bool false,.bool false,.bool false] 192)
 have e2:((w.alloc (.cells (tabCells x) 26)).alloc (.cells #[.bool false,.bool false,.bool false] 192)).heap.size=w.heap.size+2:=by simp
 have h2:=CurB.new ((w.alloc (.cells (tabCells x) 26)).alloc (.cells #[.bool false,.bool false,.bool false] 192)) false false false t2
 rw[e1]at h1
 rw[e2]at h2
 exact⟨h,((Env.new h).step ((Below.refl _ _).alloc (Nat.le_refl _) _)).step ((Below.refl _ _).alloc (Nat.le_refl _) _),(Below.heap_alloc _ _ _ (by rw[e2];omega)).trans h1,h2⟩
theorem CntSt.set0 {w0 w:World} {x:TV} {T:Tb} {a b c:Bool} (h:CntSt w0 w x T a b c) (u:Bool):CntSt w0 (w.setCell ⟨w0.heap.size+2,0,none⟩ (.bool u)) x T u b c:=⟨h.org,h.env.setc h.org (by omega),(Below.heap_setCell _ _ _ _ (by simp)).trans h.res,h.cur.set0 u⟩
theorem CntSt.set1 {w0 w:World} {x:TV} {T:Tb} {a b c:Bool} (h:CntSt w0 w x T a b c) (u:Bool):CntSt w0 (w.setCell ⟨w0.heap.size+2,1,none⟩ (.bool u)) x T a u c:=⟨h.org,h.env.setc h.org (by omega),(Below.heap_setCell _ _ _ _ (by simp)).trans h.res,h.cur.set1 u⟩
theorem CntSt.set2 {w0 w:World} {x:TV} {T:Tb} {a b c:Bool} (h:CntSt w0 w x T a b c) (u:Bool):CntSt w0 (w.setCell ⟨w0.heap.size+2,2,none⟩ (.bool u)) x T a b u:=⟨h.org,h.env.setc h.org (by omega),(Below.heap_setCell _ _ _ _ (by simp)).trans h.res,h.cur.set2 u⟩
set_option maxRecDepth 100000 in
set_option maxHeartbeats 4000000 in
theorem ccont_at (x : TV) (T : Tb) (p : Option Addr) (n cap : Nat) (zs : List Int) (K A E : Bool) (w : World) (hx : TabV w x T) (ha : ascB 0 T.scr = true) (hin : IntsIn w p zs) (HN : Hid (zs.length = n)) (hl : n ≤ 17592186043904) (hK : Hid (zs.any (kanB T) = K)) (hA : Hid (zs.any arB = A)) (hE : Hid (zs.any exB = E)) :
  Calls Tryz.prog 239 #[x.agg,.slice p n cap] w (Gives (.agg #[.bool K,.bool A,.bool E]) w):=by
 have HS:=Lib.hid (CntSt.new hx 192)
 have HI:=Lib.hid hin
 have HA:=Lib.hid ha
 clear hx hin ha
 simp only[tabCells]at HS
 simp only[TV.agg]
 go_enter Tryz.func239,Tryz.ntmps239
 go_upto_region 2 with(fail)
 generalize hW:(((w.alloc _).alloc _).alloc _)=W1 at HS ⊢
 clear hW
 go_wp2
 go_loopw [10] (fun i wr=>∃k:Nat,∃a b c:Bool,k≤n∧i = .int .i64 k∧Hid ((zs.take k).any (kanB T)=a)∧Hid ((zs.take k).any arB=b)∧Hid ((zs.take k).any exB=c)∧Hid (CntSt w wr x T a b c)) (fun i _=>n-(intOf i).toNat)
 case atStart=>exact⟨0,false,false,false,Nat.zero_le _,rfl,Lib.hid rfl,Lib.hid rfl,Lib.hid rfl,HS⟩
 case round =>
  obtain⟨k,a,b,c,hk,rfl,h1,h2,h3,hs⟩:=hrel
  by_cases hlt:k<n
  ·have hkl:k<zs.length:=by rw[HN.out];exact hlt
   obtain⟨g,off,rfl,hck⟩:=(HI.out.below hs.out.env.bel) k hkl
   obtain⟨d,hd⟩:∃d,zs.getD k 0=d:=⟨_,rfl⟩
   rw[hd]at hck
   obtain⟨z,hz⟩:∃z,Hid (scrT T d=z):=⟨_,rfl⟩
   obtain⟨q,hq⟩:∃q,Hid (kndC d=q):=⟨_,rfl⟩
   have H1:Hid ((zs.take (k+1)).any (kanB T)=(a||(decide (z=7)||decide (z=8)||decide (z=6)))):=by unfold Hid;rw[any_step (kanB T) zs k hkl,h1.out,hd];unfold kanB;rw[hz.out]
   have H2:Hid ((zs.take (k+1)).any arB=(b||decide (q=5))):=by unfold Hid;rw[any_step arB zs k hkl,h2.out,hd,←hq.out];congr 1;exact bool_dec kndC_ar
   have H3:Hid ((zs.take (k+1)).any exB=(c||decide (q=6))):=by unfold Hid;rw[any_step exB zs k hkl,h3.out,hd,←hq.out];congr 1;exact bool_dec kndC_ex
   clear hd hkl h1 h2 h3
   go_wp2_with fail
   refine(ckind_at d q _ hq).mono ?_
   rintro e w2 ⟨rfl,hb⟩
   replace hs:=Lib.hid (hs.out.step hb)
   clear hb hck hq
   by_cases q5:q=5
   ·subst q5
    replace H2:Hid ((zs.take (k+1)).any arB=true):=by unfold Hid;rw[H2.out];cases b<;>rfl
    replace H3:Hid ((zs.take (k+1)).any exB=c):=by unfold Hid;rw[H3.out];cases c<;>rfl
    obtain⟨y0,y1,y2,y3,y4,y5,y6⟩:=hs.out.cur
    replace hs:=Lib.hid (hs.out.set1 true)
    go_upto_region 10 with(fail)
    generalize w2.setCell _ _=w2b at hs ⊢
    clear y0 y1 y2 y3 y4 y5 y6
    obtain⟨⟨k0,k1,k2,k3,k4,k5⟩,⟨k6,k7,k8,k9,k10,k11⟩⟩:=hs.out.env.box.load
    go_wp2_with fail
    refine(script_at x T d z _ hs.out.env.tab HA.out hz).mono ?_
    rintro e w3 ⟨rfl,hb⟩
    replace hs:=Lib.hid (hs.out.step hb)
    clear hb
    clear k0 k1 k2 k3 k4 k5 k6 k7 k8 k9 k10 k11
    by_cases h7:z=7
    ·subst h7
     have H1b:Hid ((zs.take (k+1)).any (kanB T)=true):=by unfold Hid;rw[H1.out];cases a<;>rfl
     clear H1
     obtain⟨y0,y1,y2,y3,y4,y5,y6⟩:=hs.out.cur
     replace hs:=Lib.hid (hs.out.set0 true)
     go_wp2
     go_roundw
     case rel=>exact⟨k+1,true,true,c,by omega,by go_num,H1b,H2,H3,hs⟩
     case measure=>first|(simp[intOf];done)|(simp[intOf];omega)
    ·have d7:(z==7)=false:=by simp[h7]
     by_cases h8:z=8
     ·subst h8
      have H1b:Hid ((zs.take (k+1)).any (kanB T)=true):=by unfold Hid;rw[H1.out];cases a<;>rfl
      clear H1
      obtain⟨y0,y1,y2,y3,y4,y5,y6⟩:=hs.out.cur
      replace hs:=Lib.hid (hs.out.set0 true)
      go_wp2
      go_roundw
      case rel=>exact⟨k+1,true,true,c,by omega,by go_num,H1b,H2,H3,hs⟩
      case measure=>first|(simp[intOf];done)|(simp[intOf];omega)
     ·have d8:(z==8)=false:=by simp[h8]
      by_cases h6:z=6
      ·subst h6
       have H1b:Hid ((zs.take (k+1)).any (kanB T)=true):=by unfold Hid;rw[H1.out];cases a<;>rfl
       clear H1
       obtain⟨y0,y1,y2,y3,y4,y5,y6⟩:=hs.out.cur
       replace hs:=Lib.hid (hs.out.set0 true)
       go_wp2
       go_roundw
       case rel=>exact⟨k+1,true,true,c,by omega,by go_num,H1b,H2,H3,hs⟩
       case measure=>first|(simp[intOf];done)|(simp[intOf];omega)
      ·have d6:(z==6)=false:=by simp[h6]
       have H1b:Hid ((zs.take (k+1)).any (kanB T)=a):=by unfold Hid;rw[H1.out];simp[h7,h8,h6]
       clear H1 h7 h8 h6
       go_wp2
       go_roundw
       case rel=>exact⟨k+1,a,true,c,by omega,by go_num,H1b,H2,H3,hs⟩
       case measure=>first|(simp[intOf];done)|(simp[intOf];omega)
   ·have e5:(q==5)=false:=by simp[q5]
    replace H2:Hid ((zs.take (k+1)).any arB=b):=by unfold Hid;rw[H2.out];simp[q5]
    clear q5
    by_cases q6:q=6
    ·subst q6
     replace H3:Hid ((zs.take (k+1)).any exB=true):=by unfold Hid;rw[H3.out];cases c<;>rfl
     obtain⟨y0,y1,y2,y3,y4,y5,y6⟩:=hs.out.cur
     replace hs:=Lib.hid (hs.out.set2 true)
     go_upto_region 10 with(fail)
     generalize w2.setCell _ _=w2b at hs ⊢
     clear y0 y1 y2 y3 y4 y5 y6
     obtain⟨⟨k0,k1,k2,k3,k4,k5⟩,⟨k6,k7,k8,k9,k10,k11⟩⟩:=hs.out.env.box.load
     go_wp2_with fail
     refine(script_at x T d z _ hs.out.env.tab HA.out hz).mono ?_
     rintro e w3 ⟨rfl,hb⟩
     replace hs:=Lib.hid (hs.out.step hb)
     clear hb
     clear k0 k1 k2 k3 k4 k5 k6 k7 k8 k9 k10 k11
     by_cases h7:z=7
     ·subst h7
      have H1b:Hid ((zs.take (k+1)).any (kanB T)=true):=by unfold Hid;rw[H1.out];cases a<;>rfl
      clear H1
      obtain⟨y0,y1,y2,y3,y4,y5,y6⟩:=hs.out.cur
      replace hs:=Lib.hid (hs.out.set0 true)
      go_wp2
      go_roundw
      case rel=>exact⟨k+1,true,b,true,by omega,by go_num,H1b,H2,H3,hs⟩
      case measure=>first|(simp[intOf];done)|(simp[intOf];omega)
     ·have d7:(z==7)=false:=by simp[h7]
      by_cases h8:z=8
      ·subst h8
       have H1b:Hid ((zs.take (k+1)).any (kanB T)=true):=by unfold Hid;rw[H1.out];cases a<;>rfl
       clear H1
       obtain⟨y0,y1,y2,y3,y4,y5,y6⟩:=hs.out.cur
       replace hs:=Lib.hid (hs.out.set0 true)
       go_wp2
       go_roundw
       case rel=>exact⟨k+1,true,b,true,by omega,by go_num,H1b,H2,H3,hs⟩
       case measure=>first|(simp[intOf];done)|(simp[intOf];omega)
      ·have d8:(z==8)=false:=by simp[h8]
       by_cases h6:z=6
       ·subst h6
        have H1b:Hid ((zs.take (k+1)).any (kanB T)=true):=by unfold Hid;rw[H1.out];cases a<;>rfl
        clear H1
        obtain⟨y0,y1,y2,y3,y4,y5,y6⟩:=hs.out.cur
        replace hs:=Lib.hid (hs.out.set0 true)
        go_wp2
        go_roundw
        case rel=>exact⟨k+1,true,b,true,by omega,by go_num,H1b,H2,H3,hs⟩
        case measure=>first|(simp[intOf];done)|(simp[intOf];omega)
       ·have d6:(z==6)=false:=by simp[h6]
        have H1b:Hid ((zs.take (k+1)).any (kanB T)=a):=by unfold Hid;rw[H1.out];simp[h7,h8,h6]
        clear H1 h7 h8 h6
        go_wp2
        go_roundw
        case rel=>exact⟨k+1,a,b,true,by omega,by go_num,H1b,H2,H3,hs⟩
        case measure=>first|(simp[intOf];done)|(simp[intOf];omega)
    ·have e6:(q==6)=false:=by simp[q6]
     replace H3:Hid ((zs.take (k+1)).any exB=c):=by unfold Hid;rw[H3.out];simp[q6]
     clear q6
     obtain⟨⟨k0,k1,k2,k3,k4,k5⟩,⟨k6,k7,k8,k9,k10,k11⟩⟩:=hs.out.env.box.load
     go_wp2_with fail
     refine(script_at x T d z _ hs.out.env.tab HA.out hz).mono ?_
     rintro e w3 ⟨rfl,hb⟩
     replace hs:=Lib.hid (hs.out.step hb)
     clear hb
     clear k0 k1 k2 k3 k4 k5 k6 k7 k8 k9 k10 k11
     by_cases h7:z=7
     ·subst h7
      have H1b:Hid ((zs.take (k+1)).any (kanB T)=true):=by unfold Hid;rw[H1.out];cases a<;>rfl
      clear H1
      obtain⟨y0,y1,y2,y3,y4,y5,y6⟩:=hs.out.cur
      replace hs:=Lib.hid (hs.out.set0 true)
      go_wp2
      go_roundw
      case rel=>exact⟨k+1,true,b,c,by omega,by go_num,H1b,H2,H3,hs⟩
      case measure=>first|(simp[intOf];done)|(simp[intOf];omega)
     ·have d7:(z==7)=false:=by simp[h7]
      by_cases h8:z=8
      ·subst h8
       have H1b:Hid ((zs.take (k+1)).any (kanB T)=true):=by unfold Hid;rw[H1.out];cases a<;>rfl
       clear H1
       obtain⟨y0,y1,y2,y3,y4,y5,y6⟩:=hs.out.cur
       replace hs:=Lib.hid (hs.out.set0 true)
       go_wp2
       go_roundw
       case rel=>exact⟨k+1,true,b,c,by omega,by go_num,H1b,H2,H3,hs⟩
       case measure=>first|(simp[intOf];done)|(simp[intOf];omega)
      ·have d8:(z==8)=false:=by simp[h8]
       by_cases h6:z=6
       ·subst h6
        have H1b:Hid ((zs.take (k+1)).any (kanB T)=true):=by unfold Hid;rw[H1.out];cases a<;>rfl
        clear H1
        obtain⟨y0,y1,y2,y3,y4,y5,y6⟩:=hs.out.cur
        replace hs:=Lib.hid (hs.out.set0 true)
        go_wp2
        go_roundw
        case rel=>exact⟨k+1,true,b,c,by omega,by go_num,H1b,H2,H3,hs⟩
        case measure=>first|(simp[intOf];done)|(simp[intOf];omega)
       ·have d6:(z==6)=false:=by simp[h6]
        have H1b:Hid ((zs.take (k+1)).any (kanB T)=a):=by unfold Hid;rw[H1.out];simp[h7,h8,h6]
        clear H1 h7 h8 h6
        go_wp2
        go_roundw
        case rel=>exact⟨k+1,a,b,c,by omega,by go_num,H1b,H2,H3,hs⟩
        case measure=>first|(simp[intOf];done)|(simp[intOf];omega)
  ·obtain rfl:k=n:=by omega
   have hnn:zs.length≤k:=by rw[HN.out];exact Nat.le_refl _
   obtain rfl:K=a:=by rw[←hK.out,←h1.out,List.take_of_length_le hnn]
   obtain rfl:A=b:=by rw[←hA.out,←h2.out,List.take_of_length_le hnn]
   obtain rfl:E=c:=by rw[←hE.out,←h3.out,List.take_of_length_le hnn]
   clear h1 h2 h3 hK hA hE hnn
   obtain⟨y0,y1,y2,y3,y4,y5,y6⟩:=hs.out.cur
   have hrs:=hs.out.res
   have x0:=cell_of_row wr (w.heap.size+1) 0 _ _ (0,0) hrs
   have x1:=cell_of_row wr (w.heap.size+1) 1 _ _ (0,0) hrs
   have x2:=cell_of_row wr (w.heap.size+1) 2 _ _ (0,0) hrs
   have x3:wr.frozen? ⟨w.heap.size+1,0,none⟩=false:=by simp[World.frozen?,hrs]
   have x4:wr.frozen? ⟨w.heap.size+1,1,none⟩=false:=by simp[World.frozen?,hrs]
   have x5:wr.frozen? ⟨w.heap.size+1,2,none⟩=false:=by simp[World.frozen?,hrs]
   have HRS:=Lib.hid hrs
   clear hrs
   simp only[List.getElem?_toArray,List.getElem?_cons_zero,List.getElem?_cons_succ]at x0 x1 x2
   go_wp2
   refine bodyPost_ret (results_cell_row rfl _ _ (w.heap.size+1) _ _ _ _ rfl (row_three HRS.out) Tryz.underlying192 rfl (by kernel_rfl)) rfl ?_
   exact⟨rfl,((hs.out.env.bel.setCell (by simp) _).setCell (by simp) _).setCell (by simp) _⟩
set_option maxRecDepth 100000 in
set_option maxHeartbeats 4000000 in
theorem cisp_at (x : TV) (T : Tb) (p : Option Addr) (n cap : Nat) (zs : List Int) (m : Nat) (K A E R : Bool) (w : World) (hx : TabV w x T) (ha : ascB 0 T.scr = true) (hin : IntsIn w p zs) (HN : Hid (zs.length = n)) (hm : m < n) (hn4 : n ≤ 4096) (hK : Hid (zs.any (kanB T) = K)) (hA : Hid (zs.any arB = A)) (hE : Hid (zs.any exB = E)) (HRR : Hid (ctxB T zs m = R)) :
  Calls Tryz.prog 240 #[x.agg,.slice p n cap,.agg #[.bool K,.bool A,.bool E],.int .i64 m] w (Gives (.bool R) w):=by
 have HE:=Lib.hid (Env.new hx)
 have HI:=Lib.hid hin
 have HSC:=Lib.hid ha
 clear hx hin ha
 simp only[TV.agg]
 go_enter Tryz.func240,Tryz.ntmps240
 go_upto_region 1 with(fail)
 generalize hWB:(w.alloc (.cells (tabCells x) 26))=W1 at HE
 simp only[tabCells]at hWB
 try rw[hWB]
 have hs1:W1.heap.size=w.heap.size+1:=by rw[←hWB];simp
 clear hWB
 have hc:=CurB.new W1 K A E 192
 have hb0:Below W1.heap.size W1 (W1.alloc (.cells #[.bool K,.bool A,.bool E] 192)):=(Below.refl _ _).alloc (Nat.le_refl _) _
 replace HE:=Lib.hid (HE.out.step hb0)
 rw[hs1]at hc
 have HC:=Lib.hid hc
 clear hc hb0 hs1
 generalize W1.alloc _=W2 at HE HC ⊢
 have hml:m<zs.length:=by rw[HN.out];exact hm
 obtain⟨g,off,e0,hck⟩:=(HI.out.below HE.out.bel) m hml
 subst e0
 obtain⟨c,hcc⟩:∃c,zs.getD m 0=c:=⟨_,rfl⟩
 rw[hcc]at hck
 obtain⟨q,hq⟩:∃q,Hid (kndC c=q):=⟨_,rfl⟩
 have HPM:Hid (R=(if q=1 then decide (atC zs ((m:Int)-1)=108)&&decide (atC zs ((m:Int)+1)=108)else if q=2 then decide (scrT T (atC zs ((m:Int)+1))=4)else if q=3 then decide (scrT T (atC zs ((m:Int)-1))=11)else if q=4 then K else if q=5 then !E else if q=6 then !A else true)):=by
  unfold Hid;rw[←HRR.out,ctxB_knd HSC.out hml,hcc,hq.out,hK.out,hA.out,hE.out]
 have i0:(0:Int)≤(m:Int):=by omega
 have i1:(m:Int)<(n:Int):=by omega
 clear hcc hml HRR hK hA hE
 go_wp2_with fail
 refine(ckind_at c q _ hq).mono ?_
 rintro e w2 ⟨rfl,hb⟩
 replace HE:=Lib.hid (HE.out.step hb)
 replace HC:=Lib.hid (HC.out.below hb)
 clear hb hck hq
 by_cases q1:q=1
 ·subst q1
  replace HPM:=HPM.out
  rw[if_pos rfl]at HPM
  replace HPM:=Lib.hid HPM
  obtain⟨a,ha⟩:∃a,Hid (atC zs ((m:Int)-1)=a):=⟨_,rfl⟩
  obtain⟨d,hd⟩:∃a,Hid (atC zs ((m:Int)+1)=a):=⟨_,rfl⟩
  have HRA:Hid (R=(decide (a=108)&&decide (d=108))):=by unfold Hid;rw[HPM.out,←ha.out,←hd.out]
  have s1:IntKind.i64.wrap ((m:Int)-1)=(m:Int)-1:=IntWalk.i64_in _ (by omega)
  have s2:IntKind.i64.wrap ((m:Int)+1)=(m:Int)+1:=IntWalk.i64_in _ (by omega)
  clear HPM
  go_wp2_with fail
  refine(celem_at _ n cap zs _ a _ (HI.out.below HE.out.bel) HN ha).mono ?_
  rintro e w3 ⟨rfl,hb⟩
  replace HE:=Lib.hid (HE.out.step hb)
  clear hb
  by_cases ha1:a=108
  ·have da:(a==108)=true:=by simp[ha1]
   obtain rfl:R=(d==108):=by rw[HRA.out,decide_eq_true ha1,Bool.true_and];by_cases h:d=108<;>simp[h]
   clear HRA ha1
   go_wp2_with fail
   refine(celem_at _ n cap zs _ d _ (HI.out.below HE.out.bel) HN hd).mono ?_
   rintro e w4 ⟨rfl,hb⟩
   replace HE:=Lib.hid (HE.out.step hb)
   clear hb
   go_wp2
   go_ret
   exact⟨rfl,HE.out.bel⟩
  ·have da:(a==108)=false:=by simp[ha1]
   obtain rfl:R=false:=by rw[HRA.out,decide_eq_false ha1];rfl
   clear HRA ha1
   go_wp2
   go_ret
   exact⟨rfl,HE.out.bel⟩
 ·have e1:(q==1)=false:=by simp[q1]
  by_cases q2:q=2
  ·subst q2
   replace HPM:=HPM.out
   rw[if_neg (by decide),if_pos rfl]at HPM
   replace HPM:=Lib.hid HPM
   have s1:IntKind.i64.wrap ((m:Int)+1)=(m:Int)+1:=IntWalk.i64_in _ (by omega)
   obtain⟨d,hd⟩:∃d,Hid (atC zs ((m:Int)+1)=d):=⟨_,rfl⟩
   obtain⟨z,hz⟩:∃z,Hid (scrT T d=z):=⟨_,rfl⟩
   obtain rfl:R=(z==4):=by rw[HPM.out,hd.out,hz.out];by_cases h:z=4<;>simp[h]
   clear HPM
   have cc1:=fun p'=>layB_call (p:=p') fun W2 hW2=>celem_at _ n cap zs _ d W2 ((HI.out.below HE.out.bel).below hW2) HN hd
   have cc2:=fun p'=>layB_call (p:=p') fun W2 hW2=>script_at x T d z W2 (HE.out.tab.below hW2) HSC.out hz
   simp only[TV.agg]at cc2
   have C1:=Lib.hid cc1
   have C2:=Lib.hid cc2
   clear cc1 cc2
   go_upto_region 6 with(fail)
   obtain⟨⟨k0,k1,k2,k3,k4,k5⟩,⟨k6,k7,k8,k9,k10,k11⟩⟩:=HE.out.box.load
   have K0:=fun p=>layB_cell k0 p
   have K1:=fun p=>layB_cell k1 p
   have K2:=fun p=>layB_cell k2 p
   have K3:=fun p=>layB_cell k3 p
   have K4:=fun p=>layB_cell k4 p
   have K5:=fun p=>layB_cell k5 p
   have K6:=fun p=>layB_cell k6 p
   have K7:=fun p=>layB_cell k7 p
   have K8:=fun p=>layB_cell k8 p
   have K9:=fun p=>layB_cell k9 p
   have K10:=fun p=>layB_cell k10 p
   have K11:=fun p=>layB_cell k11 p
   clear k0 k1 k2 k3 k4 k5 k6 k7 k8 k9 k10 k11
   refine wp_region_layB (by kernel_rfl) (by kernel_rfl) ?_
   repeat (go_big_quiet_step (first
    | (go_at_call 277;with_reducible exact C1.out _)
    | (go_at_call 276;with_reducible exact C2.out _)))
   refine wpQuiet_nil ?_
   intro _ hw'
   obtain⟨pq,hw''⟩:=hw'
   subst hw''
   have HE3:=Lib.hid (HE.out.step (layB_below w2 pq))
   generalize layB w2 pq=W3 at HE3 ⊢
   go_wp2_with fail
   go_ret
   exact⟨rfl,HE3.out.bel⟩
  ·have e2:(q==2)=false:=by simp[q2]
   by_cases q3:q=3
   ·subst q3
    replace HPM:=HPM.out
    rw[if_neg (by decide),if_neg (by decide),if_pos rfl]at HPM
    replace HPM:=Lib.hid HPM
    have s1:IntKind.i64.wrap ((m:Int)-1)=(m:Int)-1:=IntWalk.i64_in _ (by omega)
    obtain⟨d,hd⟩:∃d,Hid (atC zs ((m:Int)-1)=d):=⟨_,rfl⟩
    obtain⟨z,hz⟩:∃z,Hid (scrT T d=z):=⟨_,rfl⟩
    obtain rfl:R=(z==11):=by rw[HPM.out,hd.out,hz.out];by_cases h:z=11<;>simp[h]
    clear HPM
    have cc1:=fun p'=>layB_call (p:=p') fun W2 hW2=>celem_at _ n cap zs _ d W2 ((HI.out.below HE.out.bel).below hW2) HN hd
    have cc2:=fun p'=>layB_call (p:=p') fun W2 hW2=>script_at x T d z W2 (HE.out.tab.below hW2) HSC.out hz
    simp only[TV.agg]at cc2
    have C1:=Lib.hid cc1
    have C2:=Lib.hid cc2
    clear cc1 cc2
    go_upto_region 8 with(fail)
    obtain⟨⟨k0,k1,k2,k3,k4,k5⟩,⟨k6,k7,k8,k9,k10,k11⟩⟩:=HE.out.box.load
    have K0:=fun p=>layB_cell k0 p
    have K1:=fun p=>layB_cell k1 p
    have K2:=fun p=>layB_cell k2 p
    have K3:=fun p=>layB_cell k3 p
    have K4:=fun p=>layB_cell k4 p
    have K5:=fun p=>layB_cell k5 p
    have K6:=fun p=>layB_cell k6 p
    have K7:=fun p=>layB_cell k7 p
    have K8:=fun p=>layB_cell k8 p
    have K9:=fun p=>layB_cell k9 p
    have K10:=fun p=>layB_cell k10 p
    have K11:=fun p=>layB_cell k11 p
    clear k0 k1 k2 k3 k4 k5 k6 k7 k8 k9 k10 k11
    refine wp_region_layB (by kernel_rfl) (by kernel_rfl) ?_
    repeat (go_big_quiet_step (first
     | (go_at_call 277;with_reducible exact C1.out _)
     | (go_at_call 276;with_reducible exact C2.out _)))
    refine wpQuiet_nil ?_
    intro _ hw'
    obtain⟨pq,hw''⟩:=hw'
    subst hw''
    have HE3:=Lib.hid (HE.out.step (layB_below w2 pq))
    generalize layB w2 pq=W3 at HE3 ⊢
    go_wp2_with fail
    go_ret
    exact⟨rfl,HE3.out.bel⟩
   ·have e3:(q==3)=false:=by simp[q3]
    by_cases q4:q=4
    ·subst q4
     replace HPM:=HPM.out
     rw[if_neg (by decide),if_neg (by decide),if_neg (by decide),if_pos rfl]at HPM
     replace HPM:=Lib.hid HPM
     obtain rfl:R=K:=HPM.out
     clear HPM
     obtain⟨y0,y1,y2,y3,y4,y5,y6⟩:=HC.out
     go_wp2
     go_ret
     exact⟨rfl,HE.out.bel⟩
    ·have e4:(q==4)=false:=by simp[q4]
     by_cases q5:q=5
     ·subst q5
      replace HPM:=HPM.out
      rw[if_neg (by decide),if_neg (by decide),if_neg (by decide),if_neg (by decide),if_pos rfl]at HPM
      replace HPM:=Lib.hid HPM
      obtain rfl:R=(!E):=HPM.out
      clear HPM
      obtain⟨y0,y1,y2,y3,y4,y5,y6⟩:=HC.out
      go_wp2
      go_ret
      exact⟨rfl,HE.out.bel⟩
     ·have e5:(q==5)=false:=by simp[q5]
      by_cases q6:q=6
      ·subst q6
       replace HPM:=HPM.out
       rw[if_neg (by decide),if_neg (by decide),if_neg (by decide),if_neg (by decide),if_neg (by decide),if_pos rfl]at HPM
       replace HPM:=Lib.hid HPM
       obtain rfl:R=(!A):=HPM.out
       clear HPM
       obtain⟨y0,y1,y2,y3,y4,y5,y6⟩:=HC.out
       go_wp2
       go_ret
       exact⟨rfl,HE.out.bel⟩
      ·have e6:(q==6)=false:=by simp[q6]
       replace HPM:=HPM.out
       rw[if_neg q1,if_neg q2,if_neg q3,if_neg q4,if_neg q5,if_neg q6]at HPM
       obtain rfl:R=true:=HPM
       clear q1 q2 q3 q4 q5 q6
       go_wp2
       go_ret
       exact⟨rfl,HE.out.bel⟩
end Go.Proofs.YtblcoicaeeiojaaGreatDoor
