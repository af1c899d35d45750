/- bidi: contracts of the program's outlines and their conditio -/
import Derived.Test.YtblcoicaeeiojaaGreatDoorSSiPmBidFact
import Derived.Test.YtblcoicaeeiojaaGreatDoorSSiPmOrdEnv
import Derived.Test.YtblcoicaeeiojaaGreatDoorSSiPmTabW
import Derived.Test.YtblcoicaeeiojaaGreatDoorSSiPmTabK
import Derived.BigRegion
import Derived.Test.YtblcoicaeeiojaaGreatDoorSSiPmOwn
set_option linter.unusedSimpArgs false
set_option linter.unusedVariables false
namespace Go.Proofs.YtblcoicaeeiojaaGreatDoor
open Go.RowKit
theorem row_threeU {w : World} {b : Nat} {x y z u v q : Value} {t : TypeId} (h : w.heap[b]? = some (.cells #[x, y, z] t (0, 0))) :
  (((w.setCell ⟨b,0,none⟩ u).setCell ⟨b,1,none⟩ v).setCell ⟨b,2,none⟩ q).heap[b]? = some (.cells #[u,v,q] t (0,0)):=by
 have h1:=heap_setCell_same w b 0 #[x,y,z] t u h
 have h2:=heap_setCell_same _ b 1 _ t v h1
 have h3:=heap_setCell_same _ b 2 _ t q h2
 simpa using h3
def CurU (w:World) (g:Nat) (a b c:Int):Prop :=
 w.cell? ⟨g,0,none⟩=some (.int .u64 a)∧w.cell? ⟨g,1,none⟩=some (.int .u64 b)∧w.cell? ⟨g,2,none⟩=some (.int .u64 c)∧w.frozen? ⟨g,0,none⟩=false∧w.frozen? ⟨g,1,none⟩=false∧w.frozen? ⟨g,2,none⟩=false∧g<w.heap.size
theorem CurU.new (w:World) (a b c:Int) (ty:TypeId):CurU (w.alloc (.cells #[.int .u64 a,.int .u64 b,.int .u64 c] ty)) w.heap.size a b c:=by
 refine⟨?_,?_,?_,?_,?_,?_,?_⟩<;>simp[World.cell?_alloc_new]
theorem CurU.below {w w':World} {g:Nat} {a b c:Int} (h:CurU w g a b c) (hb:Below w.heap.size w w'):CurU w' g a b c:=by
 obtain⟨h1,h2,h3,h4,h5,h6,h7⟩:=h
 have hbl:=hb.block g h7
 exact⟨(hb.cell h7).trans h1,(hb.cell h7).trans h2,(hb.cell h7).trans h3,(World.frozen?_of_block hbl).trans h4,(World.frozen?_of_block hbl).trans h5,(World.frozen?_of_block hbl).trans h6,Nat.lt_of_lt_of_le h7 hb.size⟩
theorem CurU.set0 {w:World} {g:Nat} {a b c:Int} (h:CurU w g a b c) (x:Int):CurU (w.setCell ⟨g,0,none⟩ (.int .u64 x)) g x b c:=by
 obtain⟨h1,h2,h3,h4,h5,h6,h7⟩:=h
 exact⟨World.cell?_setCell_same _ _ _ h1,(World.cell?_setCell_other _ _ _ _ (by simp)).trans h2,(World.cell?_setCell_other _ _ _ _ (by simp)).trans h3,(World.frozen?_setCell _ _ _ _).trans h4,(World.frozen?_setCell _ _ _ _).trans h5,(World.frozen?_setCell _ _ _ _).trans h6,by simpa[World.setCell] using h7⟩
theorem CurU.set1 {w:World} {g:Nat} {a b c:Int} (h:CurU w g a b c) (x:Int):CurU (w.setCell ⟨g,1,none⟩ (.int .u64 x)) g a x c:=by
 obtain⟨h1,h2,h3,h4,h5,h6,h7⟩:=h
 exact⟨(World.cell?_setCell_other _ _ _ _ (by simp)).trans h1,World.cell?_setCell_same _ _ _ h2,(World.cell?_setCell_other _ _ _ _ (by simp)).trans h3,(World.frozen?_setCell _ _ _ _).trans h4,(World.frozen?_setCell _ _ _ _).trans h5,(World.frozen?_setCell _ _ _ _).trans h6,by simpa[World.setCell] using h7⟩
theorem CurU.set2 {w:World} {g:Nat} {a b c:Int} (h:CurU w g a b c) (x:Int):CurU (w.setCell ⟨g,2,none⟩ (.int .u64 x)) g a b x:=by
 obtain⟨h1,h2,h3,h4,h5,h6,h7⟩:=h
 exact⟨(World.cell?_setCell_other _ _ _ _ (by simp)).trans h1,(World.cell?_setCell_other _ _ _ _ (by simp)).trans h2,World.cell?_setCell_same _ _ _ h3,(World.frozen?_setCell _ _ _ _).trans h4,(World.frozen?_setCell _ _ _ _).trans h5,(World.frozen?_setCell _ _ _ _).trans h6,by simpa[World.setCell] using h7⟩
theorem BoxT.otherU {w:World} {g k o:Nat} {v:Value} {x:TV} (h:BoxT w g x) (hne:g≠k):BoxT (w.setCell ⟨k,o,none⟩ v) g x:=by
 obtain⟨⟨h0,h1,h2,h3,h4,h5⟩,⟨h6,h7,h8,h9,h10,h11⟩⟩:=h
 have key:∀i u,w.cell? ⟨g,i,none⟩=some u→(w.setCell ⟨k,o,none⟩ v).cell? ⟨g,i,none⟩=some u:=fun i u hc=>(World.cell?_setCell_other _ _ _ _ (by simp[hne])).trans hc
 exact⟨⟨key _ _ h0,key _ _ h1,key _ _ h2,key _ _ h3,key _ _ h4,key _ _ h5⟩,⟨key _ _ h6,key _ _ h7,key _ _ h8,key _ _ h9,key _ _ h10,key _ _ h11⟩⟩
theorem Env.setu {w0 w:World} {x:TV} {T:Tb} (h:Env w0 x T w) (h0:TabV w0 x T) {k o:Nat} {v:Value} (hk:w0.heap.size<k):Env w0 x T (w.setCell ⟨k,o,none⟩ v) :=
 have hb:Below w0.heap.size w0 (w.setCell ⟨k,o,none⟩ v):=h.bel.setCell (p:=⟨k,o,none⟩) (Nat.le_of_lt hk) v
 ⟨h0.below hb,h.box.otherU (by omega),hb⟩
structure OutSt (w0 w:World) (x:TV) (T:Tb) (a b c:Int):Prop where
 org:TabV w0 x T
 env:Env w0 x T w
 res:w.heap[w0.heap.size+1]? = some (.cells #[.int .u64 0,.int .u64 0,.int .u64 0] 113 (0,0))
 cur:CurU w (w0.heap.size+2) a b c
theorem OutSt.step {w0 w w':World} {x:TV} {T:Tb} {a b c:Int} (h:OutSt w0 w x T a b c) (hb:Below w.heap.size w w'):OutSt w0 w' x T a b c:=⟨h.org,h.env.step hb,(hb.block _ (by have:=h.cur.2.2.2.2.2.2;omega)).trans h.res,h.cur.below hb⟩
theorem OutSt.new {w:World} {x:TV} {T:Tb} (h:TabV w x T) (t2:TypeId):OutSt w (((w.alloc (.cells (tabCells x) 26)).alloc (.cells #[.int .u64 0,.int .u64 0,.int .u64 0] 113)).alloc (.cells #[.int .u64 0,.int .u64 0,.int .u64 0] t2)) x T 0 0 0:=by
 have e1:(w.alloc (.cells (tabCells x) 26)).heap.size=w.heap.size+1:=by simp
 have h1:=heap_alloc_new (w.alloc (.cells (tabCells x) 26)) (.cells #[.int .u64 0,.int .u64 0,.int .u64 0] 113)
 have e2:((w.alloc (.cells (tabCells x) 26)).alloc (.cells #[.int .u64 0,.int .u64 0,.int .u64 0] 113)).heap.size=w.heap.size+2:=by simp
 have h2:=CurU.new ((w.alloc (.cells (tabCells x) 26)).alloc (.cells #[.int .u64 0,.int .u64 0,.int .u64 0] 113)) 0 0 0 t2
 rw[e1]at h1
 rw[e2]at h2
 exact⟨h,((Env.new h).step ((Below.refl _ _).alloc (Nat.le_refl _) _)).step ((Below.refl _ _).alloc (Nat.le_refl _) _),(Below.heap_alloc _ _ _ (by rw[e2];omega)).trans h1,h2⟩
theorem OutSt.set0 {w0 w:World} {x:TV} {T:Tb} {a b c:Int} (h:OutSt w0 w x T a b c) (u:Int):OutSt w0 (w.setCell ⟨w0.heap.size+2,0,none⟩ (.int .u64 u)) x T u b c:=⟨h.org,h.env.setu h.org (by omega),(Below.heap_setCell _ _ _ _ (by simp)).trans h.res,h.cur.set0 u⟩
theorem OutSt.set1 {w0 w:World} {x:TV} {T:Tb} {a b c:Int} (h:OutSt w0 w x T a b c) (u:Int):OutSt w0 (w.setCell ⟨w0.heap.size+2,1,none⟩ (.int .u64 u)) x T a u c:=⟨h.org,h.env.setu h.org (by omega),(Below.heap_setCell _ _ _ _ (by simp)).trans h.res,h.cur.set1 u⟩
theorem OutSt.set2 {w0 w:World} {x:TV} {T:Tb} {a b c:Int} (h:OutSt w0 w x T a b c) (u:Int):OutSt w0 (w.setCell ⟨w0.heap.size+2,2,none⟩ (.int .u64 u)) x T a b u:=⟨h.org,h.env.setu h.org (by omega),(Below.heap_setCell _ _ _ _ (by simp)).trans h.res,h.cur.set2 u⟩
theorem mask_at {a:Nat} {A:Int} (m:Nat) (ha:a<4096) (hA:Hid ((a:Int)=A)) (hm:m<4096):bits .and .u64 A (m:Int)=((a &&& m:Nat):Int):=by
 rw[←hA.out];exact u64_and12b a m ha hm
theorem pow_mark:∀n:Nat,n≤11→n≠10→2^n≠1024:=fun n h h2 e=>by
 have key:∀k:Fin 12,k.val≠10→2^k.val≠1024:=by decide
 exact key ⟨n,by omega⟩ h2 e
theorem fstM_snoc (T:Tb) (l:List Int) (k:Nat) (h:k<l.length):fstM T (l.take (k+1))=if k=0 then bitC (bidT T (l.getD k 0))else fstM T (l.take k):=by
 by_cases hk:k=0
 ·subst hk
  rw[if_pos rfl,fstM_take T l 0 (by omega)]
 ·rw[if_neg hk,fstM_take T l k (by omega)]
  obtain⟨j,rfl⟩:∃j,k=j+1:=⟨k-1,by omega⟩
  rw[fstM_take T l j (by omega)]
set_option maxRecDepth 100000 in
set_option maxHeartbeats 4000000 in
theorem bout_at (x : TV) (T : Tb) (p : Option Addr) (n cap : Nat) (zs : List Int) (F L A : Int) (w : World) (hx : TabV w x T) (hck : checkT T = 0) (hin : IntsIn w p zs) (HN : Hid (zs.length = n)) (hl : n ≤ 17592186043904) (hF : Hid ((fstM T zs : Int) = F)) (hL : Hid ((lstM T zs : Int) = L)) (hA : Hid ((clsM T zs : Int) = A)) :
  Calls Tryz.prog 109 #[x.agg,.slice p n cap] w (Gives (.agg #[.int .u64 F,.int .u64 L,.int .u64 A]) w):=by
 have HS:=Lib.hid (OutSt.new hx 113)
 have HI:=Lib.hid hin
 have HC:=Lib.hid hck
 have HAS:Hid (ascB 0 T.bid=true):=(r2_sp (check_rules hck).2.1).2.2.2.1
 clear hx hin hck
 simp only[tabCells]at HS
 simp only[TV.agg]
 go_enter Tryz.func109,Tryz.ntmps109
 go_upto_region 2 with(fail)
 generalize hW:(((w.alloc _).alloc _).alloc _)=W1 at HS ⊢
 clear hW
 go_wp2
 go_loopw [11] (fun i wr=>∃k:Nat,∃a b c:Int,k≤n∧i = .int .i64 k∧Hid ((fstM T (zs.take k):Int)=a)∧Hid ((lstM T (zs.take k):Int)=b)∧Hid ((clsM T (zs.take k):Int)=c)∧Hid (OutSt w wr x T a b c)) (fun i _=>n-(intOf i).toNat)
 case atStart=>exact⟨0,0,0,0,Nat.zero_le _,rfl,Lib.hid rfl,Lib.hid rfl,Lib.hid rfl,HS⟩
 case round =>
  obtain⟨k,a,b,c,hk,rfl,h1,h2,h3,hs⟩:=hrel
  by_cases hlt:k<n
  ·have hkl:k<zs.length:=by rw[HN.out];exact hlt
   obtain⟨g,off,rfl,hck⟩:=(HI.out.below hs.out.env.bel) k hkl
   obtain⟨d,hd⟩:∃d,zs.getD k 0=d:=⟨_,rfl⟩
   rw[hd]at hck
   obtain⟨z,hz⟩:∃z,Hid (bidT T d=z):=⟨_,rfl⟩
   have hzb:=bid_range HC.out d
   rw[hz.out]at hzb
   obtain⟨hz0,hz11⟩:=hzb
   have hz64:z≤64:=by omega
   obtain⟨q,hq⟩:∃q:Int,Hid (((bitC z:Nat):Int)=q):=⟨_,rfl⟩
   have hbz:bitC z=2^z.toNat:=by unfold bitC;rw[if_neg (by omega)]
   have hsh:IntKind.u64.wrap (2^z.toNat)=q:=by rw[u64_shl12 z.toNat (by omega),←hbz];exact hq.out
   obtain⟨r,hr⟩:∃r:Int,Hid (((clsM T (zs.take (k+1)):Nat):Int)=r):=⟨_,rfl⟩
   have hor:bits .or .u64 c q=r:=by
    rw[←hr.out,←h3.out,←hq.out,clsM_snoc T zs k hkl,hd,hz.out,←hbz]
    exact u64_or12b _ _ (clsM_lt HC.out _) (bitC_lt hz11)
   have H1:Hid ((fstM T (zs.take (k+1)):Int)=if k=0 then q else a):=by
    unfold Hid
    rw[fstM_snoc T zs k hkl,hd,hz.out,←hq.out,←h1.out]
    split<;>rfl
   have H2:Hid ((lstM T (zs.take (k+1)):Int)=if z=10 then b else q):=by
    unfold Hid
    rw[lstM_snoc T zs k hkl,hd,hz.out,←hq.out,←h2.out]
    split<;>rfl
   have H10:Hid (z≠10→q≠1024):=fun h e=>by
    have e2:=hq.out
    rw[hbz,e]at e2
    exact pow_mark z.toNat (by omega) (by omega) (by omega)
   have H10b:Hid (z=10→q=1024):=fun h=>by rw[←hq.out,h];rfl
   clear hd hkl h1 h2 h3 hbz hq hz11
   obtain⟨⟨k0,k1,k2,k3,k4,k5⟩,⟨k6,k7,k8,k9,k10,k11⟩⟩:=hs.out.env.box.load
   go_wp2_with fail
   refine(bidi_at x T d z _ hs.out.env.tab HAS.out hz).mono ?_
   rintro e w2 ⟨rfl,hb⟩
   replace hs:=Lib.hid (hs.out.step hb)
   clear hb hck
   clear k0 k1 k2 k3 k4 k5 k6 k7 k8 k9 k10 k11
   by_cases hk0:k=0
   ·have e0:((k:Int)==0)=true:=by simp[hk0]
    replace H1:Hid ((fstM T (zs.take (k+1)):Int)=q):=by unfold Hid;rw[H1.out,if_pos hk0]
    clear hk0
    by_cases hm:z=10
    ·have em:(q !=1024)=false:=by simp[H10b.out hm]
     replace H2:Hid ((lstM T (zs.take (k+1)):Int)=b):=by unfold Hid;rw[H2.out,if_pos hm]
     clear hm H10 H10b
     obtain⟨y0,y1,y2,y3,y4,y5,y6⟩:=hs.out.cur
     replace hs:=Lib.hid (hs.out.set0 q)
     replace hs:=Lib.hid (hs.out.set2 r)
     go_wp2
     go_roundw
     case rel=>exact⟨k+1,q,b,r,by omega,by go_num,H1,H2,hr,hs⟩
     case measure=>first|(simp[intOf];done)|(simp[intOf];omega)
    ·have em:(q !=1024)=true:=by simp[H10.out hm]
     replace H2:Hid ((lstM T (zs.take (k+1)):Int)=q):=by unfold Hid;rw[H2.out,if_neg hm]
     clear hm H10 H10b
     obtain⟨y0,y1,y2,y3,y4,y5,y6⟩:=hs.out.cur
     replace hs:=Lib.hid (hs.out.set0 q)
     replace hs:=Lib.hid (hs.out.set1 q)
     replace hs:=Lib.hid (hs.out.set2 r)
     go_wp2
     go_roundw
     case rel=>exact⟨k+1,q,q,r,by omega,by go_num,H1,H2,hr,hs⟩
     case measure=>first|(simp[intOf];done)|(simp[intOf];omega)
   ·have e0:((k:Int)==0)=false:=by simp;omega
    replace H1:Hid ((fstM T (zs.take (k+1)):Int)=a):=by unfold Hid;rw[H1.out,if_neg hk0]
    have i0:0<k:=by omega
    clear hk0
    by_cases hm:z=10
    ·have em:(q !=1024)=false:=by simp[H10b.out hm]
     replace H2:Hid ((lstM T (zs.take (k+1)):Int)=b):=by unfold Hid;rw[H2.out,if_pos hm]
     clear hm H10 H10b
     obtain⟨y0,y1,y2,y3,y4,y5,y6⟩:=hs.out.cur
     replace hs:=Lib.hid (hs.out.set2 r)
     go_wp2
     go_roundw
     case rel=>exact⟨k+1,a,b,r,by omega,by go_num,H1,H2,hr,hs⟩
     case measure=>first|(simp[intOf];done)|(simp[intOf];omega)
    ·have em:(q !=1024)=true:=by simp[H10.out hm]
     replace H2:Hid ((lstM T (zs.take (k+1)):Int)=q):=by unfold Hid;rw[H2.out,if_neg hm]
     clear hm H10 H10b
     obtain⟨y0,y1,y2,y3,y4,y5,y6⟩:=hs.out.cur
     replace hs:=Lib.hid (hs.out.set1 q)
     replace hs:=Lib.hid (hs.out.set2 r)
     go_wp2
     go_roundw
     case rel=>exact⟨k+1,a,q,r,by omega,by go_num,H1,H2,hr,hs⟩
     case measure=>first|(simp[intOf];done)|(simp[intOf];omega)
  ·obtain rfl:k=n:=by omega
   have hnn:zs.length≤k:=by rw[HN.out];exact Nat.le_refl _
   obtain rfl:F=a:=by rw[←hF.out,←h1.out,List.take_of_length_le hnn]
   obtain rfl:L=b:=by rw[←hL.out,←h2.out,List.take_of_length_le hnn]
   obtain rfl:A=c:=by rw[←hA.out,←h3.out,List.take_of_length_le hnn]
   clear h1 h2 h3 hF hL hA hnn
   obtain⟨y0,y1,y2,y3,y4,y5,y6⟩:=hs.out.cur
   have hrs:=hs.out.res
   have x0:=cell_of_row wr (w.heap.size+1) 0 _ _ (0,0) hrs
   have x1:=cell_of_row wr (w.heap.size+1) 1 _ _ (0,0) hrs
   have x2:=cell_of_row wr (w.heap.size+1) 2 _ _ (0,0) hrs
   have x3:wr.frozen? ⟨w.heap.size+1,0,none⟩=false:=by simp[World.frozen?,hrs]
   have x4:wr.frozen? ⟨w.heap.size+1,1,none⟩=false:=by simp[World.frozen?,hrs]
   have x5:wr.frozen? ⟨w.heap.size+1,2,none⟩=false:=by simp[World.frozen?,hrs]
   have HRS:=Lib.hid hrs
   clear hrs
   simp only[List.getElem?_toArray,List.getElem?_cons_zero,List.getElem?_cons_succ]at x0 x1 x2
   go_wp2
   refine bodyPost_ret (results_cell_row rfl _ _ (w.heap.size+1) _ _ _ _ rfl (row_threeU HRS.out) Tryz.underlying113 rfl (by kernel_rfl)) rfl ?_
   exact⟨rfl,((hs.out.env.bel.setCell (by simp) _).setCell (by simp) _).setCell (by simp) _⟩
set_option maxRecDepth 100000 in
set_option maxHeartbeats 4000000 in
theorem brt_at (R : Bool) (f l a : Nat) (F L A : Int) (w : World) (hf : f < 4096) (hl : l < 4096) (ha : a < 4096) (HF : Hid ((f : Int) = F)) (HL : Hid ((l : Int) = L)) (HA : Hid ((a : Int) = A)) (hR : Hid (decide (a &&& 14 ≠ 0) = R)) :
  Calls Tryz.prog 110 #[.agg #[.int .u64 F,.int .u64 L,.int .u64 A]] w (Gives (.bool R) w):=by
 obtain⟨M1,hM1⟩:∃M:Int,Hid (((a &&& 14:Nat):Int)=M):=⟨_,rfl⟩
 have b1:bits .and .u64 A 14=M1:=(mask_at 14 ha HA (by omega)).trans hM1.out
 obtain rfl:R=(M1 !=0):=by
  rw[←hR.out,←hM1.out,Bool.eq_iff_iff,decide_eq_true_iff,bne_iff_ne];omega
 clear hR hM1
 go_enter Tryz.func110,Tryz.ntmps110
 go_wp2
 go_ret
 exact⟨rfl,(Below.refl w.heap.size w).alloc (Nat.le_refl _) _⟩
set_option maxRecDepth 100000 in
set_option maxHeartbeats 4000000 in
theorem bvr_at (V : Int) (f l a : Nat) (F L A : Int) (w : World) (hf : f < 4096) (hl : l < 4096) (ha : a < 4096) (HF : Hid ((f : Int) = F)) (HL : Hid ((l : Int) = L)) (HA : Hid ((a : Int) = A)) (hV : Hid (vioR l a = V)) :
  Calls Tryz.prog 171 #[.agg #[.int .u64 F,.int .u64 L,.int .u64 A]] w (Gives (.int .i64 V) w):=by
 have hv:=hV.out
 unfold vioR at hv
 obtain⟨M1,hM1⟩:∃M:Int,Hid (((a &&& 2049:Nat):Int)=M):=⟨_,rfl⟩
 have b1:bits .and .u64 A 2049=M1:=(mask_at 2049 ha HA (by omega)).trans hM1.out
 have n1:Hid (a &&& 2049=0↔M1=0):=by unfold Hid;rw[←hM1.out];omega
 clear hM1
 by_cases q1:M1≠0
 ·have e1:(M1 !=0)=true:=by simp[q1]
  rw[if_pos (fun h=>q1 (n1.out.1 h))]at hv
  subst hv
  clear n1
  clear q1
  go_enter Tryz.func171,Tryz.ntmps171
  go_wp2
  go_ret
  exact⟨rfl,(Below.refl w.heap.size w).alloc (Nat.le_refl _) _⟩
 ·replace q1:M1=0:=by omega
  have e1:(M1 !=0)=false:=by simp[q1]
  rw[if_neg (fun h=>h (n1.out.2 q1))]at hv
  clear n1
  clear q1
  obtain⟨M2,hM2⟩:∃M:Int,Hid (((l &&& 30:Nat):Int)=M):=⟨_,rfl⟩
  have b2:bits .and .u64 L 30=M2:=(mask_at 30 hl HL (by omega)).trans hM2.out
  have n2:Hid (l &&& 30=0↔M2=0):=by unfold Hid;rw[←hM2.out];omega
  clear hM2
  by_cases q2:M2=0
  ·have e2:(M2==0)=true:=by simp[q2]
   rw[if_pos (n2.out.2 q2)]at hv
   subst hv
   clear n2
   clear q2
   go_enter Tryz.func171,Tryz.ntmps171
   go_wp2
   go_ret
   exact⟨rfl,(Below.refl w.heap.size w).alloc (Nat.le_refl _) _⟩
  ·have e2:(M2==0)=false:=by simp[q2]
   rw[if_neg (fun h=>q2 (n2.out.1 h))]at hv
   clear n2
   clear q2
   obtain⟨M3,hM3⟩:∃M:Int,Hid (((a &&& 24:Nat):Int)=M):=⟨_,rfl⟩
   have b3:bits .and .u64 A 24=M3:=(mask_at 24 ha HA (by omega)).trans hM3.out
   have n3:Hid (a &&& 24=24↔M3=24):=by unfold Hid;rw[←hM3.out];omega
   clear hM3
   by_cases q3:M3=24
   ·have e3:(M3==24)=true:=by simp[q3]
    rw[if_pos (n3.out.2 q3)]at hv
    subst hv
    clear n3
    clear q3
    go_enter Tryz.func171,Tryz.ntmps171
    go_wp2
    go_ret
    exact⟨rfl,(Below.refl w.heap.size w).alloc (Nat.le_refl _) _⟩
   ·have e3:(M3==24)=false:=by simp[q3]
    rw[if_neg (fun h=>q3 (n3.out.1 h))]at hv
    clear n3
    clear q3
    subst hv
    go_enter Tryz.func171,Tryz.ntmps171
    go_wp2
    go_ret
    exact⟨rfl,(Below.refl w.heap.size w).alloc (Nat.le_refl _) _⟩
set_option maxRecDepth 100000 in
set_option maxHeartbeats 4000000 in
theorem bvl_at (V : Int) (f l a : Nat) (F L A : Int) (w : World) (hf : f < 4096) (hl : l < 4096) (ha : a < 4096) (HF : Hid ((f : Int) = F)) (HL : Hid ((l : Int) = L)) (HA : Hid ((a : Int) = A)) (hV : Hid (vioL l a = V)) :
  Calls Tryz.prog 172 #[.agg #[.int .u64 F,.int .u64 L,.int .u64 A]] w (Gives (.int .i64 V) w):=by
 have hv:=hV.out
 unfold vioL at hv
 obtain⟨M1,hM1⟩:∃M:Int,Hid (((a &&& 2062:Nat):Int)=M):=⟨_,rfl⟩
 have b1:bits .and .u64 A 2062=M1:=(mask_at 2062 ha HA (by omega)).trans hM1.out
 have n1:Hid (a &&& 2062=0↔M1=0):=by unfold Hid;rw[←hM1.out];omega
 clear hM1
 by_cases q1:M1≠0
 ·have e1:(M1 !=0)=true:=by simp[q1]
  rw[if_pos (fun h=>q1 (n1.out.1 h))]at hv
  subst hv
  clear n1
  clear q1
  go_enter Tryz.func172,Tryz.ntmps172
  go_wp2
  go_ret
  exact⟨rfl,(Below.refl w.heap.size w).alloc (Nat.le_refl _) _⟩
 ·replace q1:M1=0:=by omega
  have e1:(M1 !=0)=false:=by simp[q1]
  rw[if_neg (fun h=>h (n1.out.2 q1))]at hv
  clear n1
  clear q1
  obtain⟨M2,hM2⟩:∃M:Int,Hid (((l &&& 17:Nat):Int)=M):=⟨_,rfl⟩
  have b2:bits .and .u64 L 17=M2:=(mask_at 17 hl HL (by omega)).trans hM2.out
  have n2:Hid (l &&& 17=0↔M2=0):=by unfold Hid;rw[←hM2.out];omega
  clear hM2
  by_cases q2:M2=0
  ·have e2:(M2==0)=true:=by simp[q2]
   rw[if_pos (n2.out.2 q2)]at hv
   subst hv
   clear n2
   clear q2
   go_enter Tryz.func172,Tryz.ntmps172
   go_wp2
   go_ret
   exact⟨rfl,(Below.refl w.heap.size w).alloc (Nat.le_refl _) _⟩
  ·have e2:(M2==0)=false:=by simp[q2]
   rw[if_neg (fun h=>q2 (n2.out.1 h))]at hv
   clear n2
   clear q2
   subst hv
   go_enter Tryz.func172,Tryz.ntmps172
   go_wp2
   go_ret
   exact⟨rfl,(Below.refl w.heap.size w).alloc (Nat.le_refl _) _⟩
set_option maxRecDepth 100000 in
set_option maxHeartbeats 4000000 in
theorem bvi_at (V : Int) (f l a : Nat) (F L A : Int) (w : World) (hf : f < 4096) (hl : l < 4096) (ha : a < 4096) (HF : Hid ((f : Int) = F)) (HL : Hid ((l : Int) = L)) (HA : Hid ((a : Int) = A)) (hV : Hid (vioN f l a = V)) :
  Calls Tryz.prog 111 #[.agg #[.int .u64 F,.int .u64 L,.int .u64 A]] w (Gives (.int .i64 V) w):=by
 have hv:=hV.out
 unfold vioN at hv
 by_cases q0:A=0
 ·have e0:(A==0)=true:=by simp[q0]
  rw[if_pos (by have:=HA.out;omega)]at hv
  subst hv
  clear q0
  go_enter Tryz.func111,Tryz.ntmps111
  go_wp2
  go_ret
  exact⟨rfl,(Below.refl w.heap.size w).alloc (Nat.le_refl _) _⟩
 ·have e0:(A==0)=false:=by simp[q0]
  rw[if_neg (by have:=HA.out;omega)]at hv
  clear q0
  obtain⟨M1,hM1⟩:∃M:Int,Hid (((f &&& 6:Nat):Int)=M):=⟨_,rfl⟩
  have b1:bits .and .u64 F 6=M1:=(mask_at 6 hf HF (by omega)).trans hM1.out
  obtain⟨M2,hM2⟩:∃M:Int,Hid (((f &&& 1:Nat):Int)=M):=⟨_,rfl⟩
  have b2:bits .and .u64 F 1=M2:=(mask_at 1 hf HF (by omega)).trans hM2.out
  have n1:Hid (f &&& 6=0↔M1=0):=by unfold Hid;rw[←hM1.out];omega
  have n2:Hid (f &&& 1=0↔M2=0):=by unfold Hid;rw[←hM2.out];omega
  clear hM1 hM2
  by_cases q1:M1=0
  ·have e1:(M1 !=0)=false:=by simp[q1]
   rw[if_neg (fun h=>h (n1.out.2 q1))]at hv
   clear q1 n1
   by_cases q2:M2=0
   ·have e2:(M2 !=0)=false:=by simp[q2]
    rw[if_neg (fun h=>h (n2.out.2 q2))]at hv
    subst hv
    clear q2 n2
    go_enter Tryz.func111,Tryz.ntmps111
    go_wp2
    go_ret
    exact⟨rfl,(Below.refl w.heap.size w).alloc (Nat.le_refl _) _⟩
   ·have e2:(M2 !=0)=true:=by simp[q2]
    rw[if_pos (fun h=>q2 (n2.out.1 h))]at hv
    replace hV:=Lib.hid hv
    clear q2 n2 hv
    go_enter Tryz.func111,Tryz.ntmps111
    go_wp2_with fail
    refine(bvl_at V f l a F L A _ hf hl ha HF HL HA hV).mono ?_
    rintro e w2 ⟨rfl,hb⟩
    have HB:=Lib.hid (((Below.refl w.heap.size w).alloc (Nat.le_refl _) (.cells #[.int .u64 F,.int .u64 L,.int .u64 A] 113)).trans (hb.mono (by simp)))
    clear hb
    go_wp2
    go_ret
    exact⟨rfl,HB.out⟩
  ·have e1:(M1 !=0)=true:=by simp[q1]
   rw[if_pos (fun h=>q1 (n1.out.1 h))]at hv
   replace hV:=Lib.hid hv
   clear q1 n1 hv n2
   go_enter Tryz.func111,Tryz.ntmps111
   go_wp2_with fail
   refine(bvr_at V f l a F L A _ hf hl ha HF HL HA hV).mono ?_
   rintro e w2 ⟨rfl,hb⟩
   have HB:=Lib.hid (((Below.refl w.heap.size w).alloc (Nat.le_refl _) (.cells #[.int .u64 F,.int .u64 L,.int .u64 A] 113)).trans (hb.mono (by simp)))
   clear hb
   go_wp2
   go_ret
   exact⟨rfl,HB.out⟩
theorem domR_tab {T:Tb} {L:List (List Int)} (h:checkT T≠0) (hn:0<L.length):domR T L=(0,2):=by
 have ha:∀l,accE T l=2:=fun l=>by unfold accE;rw[if_pos h]
 have:=domR_ref (T:=T) (L:=L) (i:=0) hn (fun j hj=>by omega) (by rw[ha];decide)
 rw[this,ha];rfl
def vioK (T:Tb) (L:List (List Int)) (k:Nat) (V:Int):Prop:=(V = -1∧∀j,j<k→ruleT T (L.getD j [])=0)∨∃i,i<k∧V=(i:Int)∧(∀j,j<i→ruleT T (L.getD j [])=0)∧ruleT T (L.getD i [])≠0
theorem vioK_zero (T:Tb) (L:List (List Int)):vioK T L 0 (-1) := .inl ⟨rfl,fun j hj=>by omega⟩
theorem vioK_ok {T:Tb} {L:List (List Int)} {k:Nat} {V:Int} (h:vioK T L k V) (h0:ruleT T (L.getD k [])=0):vioK T L (k+1) V:=by
 rcases h with⟨h1,h2⟩|⟨i,h1,h2,h3,h4⟩
 ·refine .inl ⟨h1,fun j hj=>?_⟩
  by_cases e:j=k
  ·rw[e];exact h0
  ·exact h2 j (by omega)
 ·exact .inr ⟨i,by omega,h2,h3,h4⟩
theorem vioK_had {T:Tb} {L:List (List Int)} {k:Nat} {V:Int} (h:vioK T L k V) (h0:V≠-1):vioK T L (k+1) V:=by
 rcases h with⟨h1,h2⟩|⟨i,h1,h2,h3,h4⟩
 ·exact absurd h1 h0
 ·exact .inr ⟨i,by omega,h2,h3,h4⟩
theorem vioK_new {T:Tb} {L:List (List Int)} {k:Nat} {V:Int} (h:vioK T L k V) (hV:V = -1) (h0:ruleT T (L.getD k [])≠0):vioK T L (k+1) (k:Int):=by
 rcases h with⟨h1,h2⟩|⟨i,h1,h2,h3,h4⟩
 ·exact .inr ⟨k,by omega,rfl,h2,h0⟩
 ·omega
theorem dom_end {T:Tb} {L:List (List Int)} {V:Int} (hg:∀l∈L,accE T l=0) (h:vioK T L L.length V):domR T L=if L.any (rtlT T)=true∧V≠-1 then(V,19) else(0,0):=by
 cases hr:L.any (rtlT T) with
 | false=>rw[if_neg (fun h=>by cases h.1)];exact domR_no hg hr
 | true =>
  rcases h with⟨h1,h2⟩|⟨i,h1,h2,h3,h4⟩
  ·rw[if_neg (fun h=>h.2 h1)]
   refine domR_ok hg fun l hl=>?_
   obtain⟨j,hj,e⟩:=memL_getD L l hl
   rw[←e];exact h2 j hj
  ·rw[if_pos ⟨rfl,by omega⟩,h2]
   exact domR_vio hg hr h1 h3 h4
theorem anyl_stepP (q:List Int→Bool) (L:List (List Int)) (k:Nat) (h:k<L.length):(L.take (k+1)).any q=((L.take k).any q||q (L.getD k [])):=by
 rw[List.take_succ_eq_append_getElem h,List.any_append];simp[h]
theorem bref_at (x : TV) (T : Tb) (p : Option Addr) (cap : Nat) (zs : List Int) (E : Int) (w : World) (hx : TabV w x T) (hr : Rsv w) (hin : IntsIn w p zs) (hl : zs.length ≤ 17592186043904) (hE : Hid (accE T zs = E)) :
  Calls Tryz.prog 108 #[x.agg,.slice p zs.length cap] w (Gives (.int .i64 E) w):=by
 obtain⟨RL,hRL⟩:∃L,Hid (runsL T zs=L):=⟨_,rfl⟩
 have hac:=fun W (h1:TabV W x T) h2 h3=>runs_at x T p cap zs E RL W h1 h2 h3 hl hE hRL
 have HR:=Lib.hid hr
 have HE:=Lib.hid (Env.new hx)
 have HI:=Lib.hid hin
 obtain⟨n,hn⟩:∃n,zs.length=n:=⟨_,rfl⟩
 rw[hn]at hl hac ⊢
 have HAC:=Lib.hid hac
 clear hx hin hn hr hac
 simp only[TV.agg]
 go_enter Tryz.func108,Tryz.ntmps108
 obtain⟨⟨k0,k1,k2,k3,k4,k5⟩,⟨k6,k7,k8,k9,k10,k11⟩⟩:=HE.out.box.load
 go_wp2_with fail
 refine(HAC.out _ HE.out.tab (HR.out.below HE.out.bel) (HI.out.below HE.out.bel)).mono ?_
 rintro e w1 ⟨v0,rfl,_,hb1⟩
 replace HE:=Lib.hid (HE.out.step hb1)
 clear hb1 k0 k1 k2 k3 k4 k5 k6 k7 k8 k9 k10 k11
 go_wp2
 go_ret
 exact⟨rfl,HE.out.bel⟩
set_option maxRecDepth 100000 in
set_option maxHeartbeats 4000000 in
theorem bdom_at (x : TV) (T : Tb) (p : Option Addr) (n cap : Nat) (L : List (List Int)) (K E : Int) (w : World) (hx : TabV w x T) (hr : Rsv w) (hin : LsIn w p L) (HN : Hid (L.length = n)) (hl : 0 < n ∧ n ≤ 17592186043904) (hll : ∀ l ∈ L, l.length ≤ 17592186043904) (hR : Hid (domR T L = (K, E))) :
  Calls Tryz.prog 69 #[x.agg,.slice p n cap] w (Gives (.tuple #[.int .i64 K,.int .i64 E]) w):=by
 obtain⟨C,hC⟩:∃C,Hid (checkT T=C):=⟨_,rfl⟩
 have HE:=Lib.hid (Env.new hx)
 have HI:=Lib.hid hin
 have HLL:=Lib.hid hll
 have HR:=Lib.hid hr
 obtain⟨hn0,hl⟩:=hl
 clear hx hin hll hr
 simp only[TV.agg]
 go_enter Tryz.func69,Tryz.ntmps69
 obtain⟨⟨k0,k1,k2,k3,k4,k5⟩,⟨k6,k7,k8,k9,k10,k11⟩⟩:=HE.out.box.load
 go_wp2_with fail
 refine(check_tab_at x T C _ HE.out.tab (HR.out.below HE.out.bel) hC).mono ?_
 rintro e w1 ⟨rfl,hb1⟩
 replace HE:=Lib.hid (HE.out.step hb1)
 clear hb1
 clear k0 k1 k2 k3 k4 k5 k6 k7 k8 k9 k10 k11
 by_cases hc0:C=0
 ·have dc:(C !=0)=false:=by simp[hc0]
  have HC:Hid (checkT T=0):=by unfold Hid;rw[hC.out,hc0]
  clear hc0
  go_wp2
  go_loopw [6,7,17] (fun v u i wr=>∃k:Nat,∃G:Bool,∃V:Int,k≤n∧i = .int .i64 k∧v = .bool G∧u = .int .i64 V∧Hid ((L.take k).any (rtlT T)=G)∧Hid (vioK T L k V)∧Hid (∀j,j<k→accE T (L.getD j [])=0)∧Hid (Env w x T wr)) (fun _ _ i _=>n-(intOf i).toNat)
  case atStart=>exact⟨0,false,-1,Nat.zero_le _,rfl,rfl,rfl,Lib.hid rfl,Lib.hid (vioK_zero T L),fun j hj=>by omega,HE⟩
  case round =>
   obtain⟨k,G,V,hk,rfl,rfl,rfl,hG,hV,hgd,he⟩:=hrel
   by_cases hlt:k<n
   ·have hkl:k<L.length:=by rw[HN.out];exact hlt
    obtain⟨b,off,q,c,rfl,hck,_,hi⟩:=(HI.out.below he.out.bel) k hkl
    obtain⟨zs,hzs⟩:∃l,L.getD k []=l:=⟨_,rfl⟩
    have HST:=Lib.hid (anyl_stepP (rtlT T) L k hkl)
    have HML:Hid (zs.length≤17592186043904):=by unfold Hid;rw[←hzs];exact HLL.out _ (getD_memL L k hkl)
    rw[hzs]at hck hi HST
    have HQ:=Lib.hid hi
    obtain⟨A,hA⟩:∃A,Hid (accE T zs=A):=⟨_,rfl⟩
    have HLK:=Lib.hid hzs
    rw[hG.out]at HST
    have hac:=fun W (h1:TabV W x T) h2 h3=>bref_at x T q c zs A W h1 h2 h3 HML.out hA
    obtain⟨m,hm⟩:∃m,zs.length=m:=⟨_,rfl⟩
    have hml:=HML.out
    rw[hm]at hac hck hml
    have HM:=Lib.hid hm
    have HAC:=Lib.hid hac
    clear hzs hi hac hm
    obtain⟨⟨k0,k1,k2,k3,k4,k5⟩,⟨k6,k7,k8,k9,k10,k11⟩⟩:=he.out.box.load
    go_wp2_with fail
    refine(HAC.out _ he.out.tab (HR.out.below he.out.bel) HQ.out).mono ?_
    rintro e w2 ⟨rfl,hb⟩
    replace he:=Lib.hid (he.out.step hb)
    replace HQ:=Lib.hid (HQ.out.below hb)
    clear hb hck
    clear k0 k1 k2 k3 k4 k5 k6 k7 k8 k9 k10 k11
    by_cases h0:A=0
    ·subst h0
     have hgd2:Hid (∀j,j<k+1→accE T (L.getD j [])=0):=fun j hj=>by
      by_cases e:j=k
      ·rw[e,HLK.out];exact hA.out
      ·exact hgd.out j (by omega)
     obtain⟨f,hf⟩:∃f:Nat,fstM T zs=f:=⟨_,rfl⟩
     obtain⟨l,hll⟩:∃f:Nat,lstM T zs=f:=⟨_,rfl⟩
     obtain⟨a,ha⟩:∃f:Nat,clsM T zs=f:=⟨_,rfl⟩
     obtain⟨F,hF⟩:∃F:Int,Hid ((f:Int)=F):=⟨_,rfl⟩
     obtain⟨Y,hY⟩:∃F:Int,Hid ((l:Int)=F):=⟨_,rfl⟩
     obtain⟨X,hX⟩:∃F:Int,Hid ((a:Int)=F):=⟨_,rfl⟩
     have hCC:checkT T=0:=(accE_ok hA.out).1
     have hfb:f<4096:=by rw[←hf];exact fstM_lt hCC zs
     have hlb:l<4096:=by rw[←hll];exact lstM_lt hCC zs
     have hab:a<4096:=by rw[←ha];exact clsM_lt hCC zs
     have hof:Hid ((fstM T zs:Int)=F):=by unfold Hid;rw[hf];exact hF.out
     have hol:Hid ((lstM T zs:Int)=Y):=by unfold Hid;rw[hll];exact hY.out
     have hoa:Hid ((clsM T zs:Int)=X):=by unfold Hid;rw[ha];exact hX.out
     obtain⟨R,hR1⟩:∃R,Hid (decide (a &&& 14≠0)=R):=⟨_,rfl⟩
     obtain⟨U,hU⟩:∃U,Hid (vioN f l a=U):=⟨_,rfl⟩
     have hUR:Hid (ruleT T (L.getD k [])=U):=by unfold Hid;rw[HLK.out,←hU.out,←hf,←hll,←ha,vio_ok hCC zs]
     have hRT:Hid (rtlT T zs=R):=by unfold Hid;rw[←rtlM_ok hCC zs,←hR1.out,←ha]
     rw[hRT.out]at HST
     clear hf hll ha hkl
     obtain⟨⟨k0,k1,k2,k3,k4,k5⟩,⟨k6,k7,k8,k9,k10,k11⟩⟩:=he.out.box.load
     go_wp2_with fail
     refine(bout_at x T q m c zs F Y X _ he.out.tab HC.out HQ.out HM hml hof hol hoa).mono ?_
     rintro e w3 ⟨rfl,hb⟩
     replace he:=Lib.hid (he.out.step hb)
     clear hb
     clear k0 k1 k2 k3 k4 k5 k6 k7 k8 k9 k10 k11
     have hc:=CurU.new w3 F Y X 113
     obtain⟨z0,z1,z2,z3,z4,z5,z6⟩:=CurU.new w3 0 0 0 113
     go_upto_region 11 with(fail)
     clear z0 z1 z2 z3 z4 z5 z6
     have hb0:Below w3.heap.size w3 (w3.alloc (.cells #[.int .u64 F,.int .u64 Y,.int .u64 X] 113)):=(Below.refl _ _).alloc (Nat.le_refl _) _
     replace he:=Lib.hid (he.out.step hb0)
     have HCU:=Lib.hid hc
     clear hb0 hc
     generalize (w3.alloc (.cells #[.int .u64 F,.int .u64 Y,.int .u64 X] 113))=W4 at he HCU ⊢
     generalize w3.heap.size=gb at HCU ⊢
     cases G with
     | true =>
      rw[Bool.true_or]at HST
      by_cases hv:V = -1
      ·have ev:(V == -1)=true:=by simp[hv]
       replace hv:=Lib.hid hv
       obtain⟨y0,y1,y2,y3,y4,y5,y6⟩:=HCU.out
       go_wp2_with fail
       refine(bvi_at U f l a F Y X _ hfb hlb hab hF hY hX hU).mono ?_
       rintro e w5 ⟨rfl,hb⟩
       replace he:=Lib.hid (he.out.step hb)
       replace HCU:=Lib.hid (HCU.out.below hb)
       clear hb
       clear y0 y1 y2 y3 y4 y5 y6
       by_cases hu:U=0
       ·have eu:(U !=0)=false:=by simp[hu]
        have hV2:Hid (vioK T L (k+1) V):=vioK_ok hV.out (by rw[hUR.out];exact hu)
        clear hu hv
        go_wp2
        go_roundw
        case rel=>exact⟨k+1,true,V,by omega,by go_num,rfl,rfl,HST,hV2,hgd2,he⟩
        case measure=>first|(simp[intOf];done)|(simp[intOf];omega)
       ·have eu:(U !=0)=true:=by simp[hu]
        have hV2:Hid (vioK T L (k+1) (k:Int)):=vioK_new hV.out hv.out (by rw[hUR.out];exact hu)
        clear hu hv
        go_wp2
        go_roundw
        case rel=>exact⟨k+1,true,(k:Int),by omega,by go_num,rfl,rfl,HST,hV2,hgd2,he⟩
        case measure=>first|(simp[intOf];done)|(simp[intOf];omega)
      ·have ev:(V == -1)=false:=by simp[hv]
       have hV2:Hid (vioK T L (k+1) V):=vioK_had hV.out hv
       clear hv
       go_wp2
       go_roundw
       case rel=>exact⟨k+1,true,V,by omega,by go_num,rfl,rfl,HST,hV2,hgd2,he⟩
       case measure=>first|(simp[intOf];done)|(simp[intOf];omega)
     | false =>
      rw[Bool.false_or]at HST
      obtain⟨y0,y1,y2,y3,y4,y5,y6⟩:=HCU.out
      go_wp2_with fail
      refine(brt_at R f l a F Y X _ hfb hlb hab hF hY hX hR1).mono ?_
      rintro e w6 ⟨rfl,hb⟩
      replace he:=Lib.hid (he.out.step hb)
      replace HCU:=Lib.hid (HCU.out.below hb)
      clear hb
      clear y0 y1 y2 y3 y4 y5 y6
      by_cases hv:V = -1
      ·have ev:(V == -1)=true:=by simp[hv]
       replace hv:=Lib.hid hv
       obtain⟨y0,y1,y2,y3,y4,y5,y6⟩:=HCU.out
       go_wp2_with fail
       refine(bvi_at U f l a F Y X _ hfb hlb hab hF hY hX hU).mono ?_
       rintro e w5 ⟨rfl,hb⟩
       replace he:=Lib.hid (he.out.step hb)
       replace HCU:=Lib.hid (HCU.out.below hb)
       clear hb
       clear y0 y1 y2 y3 y4 y5 y6
       by_cases hu:U=0
       ·have eu:(U !=0)=false:=by simp[hu]
        have hV2:Hid (vioK T L (k+1) V):=vioK_ok hV.out (by rw[hUR.out];exact hu)
        clear hu hv
        go_wp2
        go_roundw
        case rel=>exact⟨k+1,R,V,by omega,by go_num,rfl,rfl,HST,hV2,hgd2,he⟩
        case measure=>first|(simp[intOf];done)|(simp[intOf];omega)
       ·have eu:(U !=0)=true:=by simp[hu]
        have hV2:Hid (vioK T L (k+1) (k:Int)):=vioK_new hV.out hv.out (by rw[hUR.out];exact hu)
        clear hu hv
        go_wp2
        go_roundw
        case rel=>exact⟨k+1,R,(k:Int),by omega,by go_num,rfl,rfl,HST,hV2,hgd2,he⟩
        case measure=>first|(simp[intOf];done)|(simp[intOf];omega)
      ·have ev:(V == -1)=false:=by simp[hv]
       have hV2:Hid (vioK T L (k+1) V):=vioK_had hV.out hv
       clear hv
       go_wp2
       go_roundw
       case rel=>exact⟨k+1,R,V,by omega,by go_num,rfl,rfl,HST,hV2,hgd2,he⟩
       case measure=>first|(simp[intOf];done)|(simp[intOf];omega)
    ·have d0:(A !=0)=true:=by simp[h0]
     have hR2:=hR.out
     rw[domR_ref hkl hgd.out (by rw[HLK.out,hA.out];exact h0),HLK.out,hA.out]at hR2
     injection hR2 with e1 e2
     subst e1
     subst e2
     clear h0 hkl
     go_wp2
     go_ret2
     exact⟨rfl,he.out.bel⟩
   ·obtain rfl:k=n:=by omega
    have HGA:Hid (∀l∈L,accE T l=0):=fun l hl=>by
     obtain⟨j,hj,e⟩:=memL_getD L l hl
     rw[←e];exact hgd.out j (by rw[HN.out]at hj;exact hj)
    have hGL:L.any (rtlT T)=G:=by rw[←hG.out,List.take_of_length_le (by rw[HN.out];exact Nat.le_refl _)]
    have hR2:=hR.out
    rw[dom_end HGA.out (by rw[HN.out];exact hV.out),hGL]at hR2
    clear hG hGL hgd hn0
    cases G with
    | false =>
     rw[if_neg (fun h=>by cases h.1)]at hR2
     injection hR2 with e1 e2
     subst e1
     subst e2
     go_wp2
     go_ret2
     exact⟨rfl,he.out.bel⟩
    | true =>
     by_cases hv:V = -1
     ·have ev:(V == -1)=true:=by simp[hv]
      rw[if_neg (fun h=>h.2 hv)]at hR2
      injection hR2 with e1 e2
      subst e1
      subst e2
      clear hv
      go_wp2
      go_ret2
      exact⟨rfl,he.out.bel⟩
     ·have ev:(V == -1)=false:=by simp[hv]
      rw[if_pos ⟨rfl,hv⟩]at hR2
      injection hR2 with e1 e2
      subst e1
      subst e2
      clear hv
      go_wp2
      go_ret2
      exact⟨rfl,he.out.bel⟩
 ·have dc:(C !=0)=true:=by simp[hc0]
  have hR2:=hR.out
  rw[domR_tab (by rw[hC.out];exact hc0) (by rw[HN.out];exact hn0)]at hR2
  injection hR2 with e1 e2
  subst e1
  subst e2
  clear hc0
  go_wp2
  go_ret2
  exact⟨rfl,HE.out.bel⟩
end Go.Proofs.YtblcoicaeeiojaaGreatDoor
