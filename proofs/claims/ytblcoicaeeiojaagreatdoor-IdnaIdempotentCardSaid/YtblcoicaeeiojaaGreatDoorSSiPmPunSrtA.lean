/- The contracts of keep.From and keep.Source.Next: a source is -/
import Derived.Test.YtblcoicaeeiojaaGreatDoorSSiPmOwn
import Derived.Deep.QuietTactic
import Derived.BigQuiet
import Derived.Deep.DeepCutAuto
import Derived.Test.YtblcoicaeeiojaaGreatDoorSSiPmPunSrt
import Derived.BigRegion
import Derived.Laws.OwnMore
set_option linter.unusedSimpArgs false
set_option linter.unusedVariables false
namespace Go.Proofs.YtblcoicaeeiojaaGreatDoor
open Go.RowKit
def Src (w:World) (g:Nat) (r:List Int):Prop :=
 ∃(zs:List Int) (i:Nat) (p:Option Addr) (cap:Nat),zs.drop i=r∧i≤zs.length∧zs.length≤17592186043904∧w.cell? ⟨g,0,none⟩=some (.slice p zs.length cap)∧w.cell? ⟨g,1,none⟩=some (.int .i64 i)∧
  w.frozen? ⟨g,1,none⟩=false∧IntsIn w p zs∧(zs≠[]→∀b off,p=some ⟨b,off,none⟩→b<g)
def nextV (r:List Int) (n:Int):Int:=match r with | []=>0|x::_=>pickS x n
theorem nextV_bd (r:List Int) (n:Int) (h:1≤n):0≤nextV r n∧nextV r n<n:=by
 unfold nextV
 split
 ·omega
 ·exact pickS_bd _ n h
theorem RowIn.grown {t:IntKind} {w w':World} {p:Option Addr} {zs:List Int} {g:Nat} (h:RowIn t w p zs) (hg:w.grownBy w' (some g)) (hp:∀b off,p=some ⟨b,off,none⟩→b≠g):RowIn t w' p zs:=by
 intro k hk
 obtain⟨b,off,e,hc⟩:=h k hk
 exact⟨b,off,e,hg.cell hc (by simpa using hp b off e)⟩
theorem Src.below {w w':World} {g:Nat} {r:List Int} (h:Src w g r) (hb:Below w.heap.size w w'):Src w' g r:=by
 obtain⟨zs,i,p,cap,h1,h2,h3,h4,h5,h6,h7,h8⟩:=h
 have hlt:=World.block_lt_of_cell? w _ h4
 have hlt1:=World.block_lt_of_cell? w _ h5
 exact⟨zs,i,p,cap,h1,h2,h3,(hb.cell (p:=⟨g,0,none⟩) hlt).trans h4,(hb.cell (p:=⟨g,1,none⟩) hlt1).trans h5,(hb.frozen (p:=⟨g,1,none⟩) hlt1).trans h6,h7.below hb,h8⟩
theorem Src.alloc {w:World} {g:Nat} {r:List Int} (h:Src w g r) (o:Obj):Src (w.alloc o) g r:=h.below ((Below.refl _ _).alloc (Nat.le_refl _) o)
theorem grownBy_trans {w w1 w2:World} {row:Option Nat} (h:w.grownBy w1 row) (k:w1.grownBy w2 row):w.grownBy w2 row :=
 ⟨k.os.trans h.os,k.tape.trans h.tape,k.output.trans h.output,Nat.le_trans h.size k.size,fun i hi hne=>(k.block i (Nat.lt_of_lt_of_le hi h.size) hne).trans (h.block i hi hne)⟩
theorem grownBy_of_below {w w1 w2:World} {row:Option Nat} (h:w.grownBy w1 row) (k:Below w1.heap.size w1 w2):w.grownBy w2 row:=grownBy_trans h (below_grownBy k row)
theorem grownBy_drewN {w w1:World} {row:Option Nat} (h:w.grownBy w1 row) (n:Nat):w.grownBy (w1.drewN n) row:=⟨h.os,h.tape,h.output,h.size,h.block⟩
theorem grownBy_store (w:World) (g o:Nat) (v:Value):w.grownBy (w.setCell ⟨g,o,none⟩ v) (some g) :=
 ⟨rfl,rfl,rfl,by simp,fun k _ hne=>heap_setCell_other w ⟨g,o,none⟩ k v (fun e=>hne (by simp[e]))⟩
theorem Src.grown {w w':World} {g:Nat} {r:List Int} {row:Option Nat} (h:Src w g r) (hg:w.grownBy w' row) (hr:∀k,row=some k→g<k):Src w' g r:=by
 obtain⟨zs,i,p,cap,h1,h2,h3,h4,h5,h6,h7,h8⟩:=h
 have hne:∀b,b≤g→some b≠row:=fun b hb e=>by have:=hr b e.symm;omega
 have hlt:=World.block_lt_of_cell? w _ h4
 refine⟨zs,i,p,cap,h1,h2,h3,hg.cell h4 (hne g (Nat.le_refl _)),hg.cell h5 (hne g (Nat.le_refl _)),?_,?_,h8⟩
 ·exact(World.frozen?_of_block (hg.block g hlt (hne g (Nat.le_refl _)))).trans h6
 ·intro k hk
  obtain⟨b,off,e,hc⟩:=h7 k hk
  have hb:=h8 (by intro e;rw[e]at hk;simp at hk) b off e
  exact⟨b,off,e,hg.cell hc (hne b (by omega))⟩
def NextPost (g:Nat) (v:Int) (r:List Int) (w:World) (e:Ending) (w':World):Prop :=
 e = .returned (.int .i64 v)∧Src w' g r∧w.grownBy w' (some g)
theorem pick_quiet (v n : Int) (w : World) (h0 : 1 ≤ n) (h1 : n ≤ 1073741824) :
  Calls Tryz.prog 18 #[.int .i64 v,.int .i64 n] w fun e w'=>e = .returned (.int .i64 (pickS v n))∧w'=w :=
 (pick_any v n w h0 h1).mono fun _ _ ⟨a,b⟩=>⟨a,b.symm⟩
set_option maxHeartbeats 1000000 in
theorem next_any (g : Nat) (r : List Int) (n : Int) (w : World) (hs : Src w g r) (h0 : 1 ≤ n) (h1 : n ≤ 1073741824) :
  Calls Tryz.prog 30 #[.pointer (some ⟨g,0,none⟩),.int .i64 n] w (NextPost g (nextV r n) r.tail w):=by
 obtain⟨zs,i,p,cap,hd,hi,hl,hc0,hc1,hf,hin,hp⟩:=hs
 have HD:=Lib.hid hd
 have HI:=Lib.hid hin
 have HQ:=Lib.hid hp
 clear hd hin hp
 by_cases hlt:i<zs.length
 ·have HP:=Lib.hid (HQ.out (by intro e;rw[e]at hlt;simp at hlt))
  clear HQ
  obtain⟨b,off,rfl,hck⟩:=HI.out i hlt
  have hbg:b<g:=HP.out b off rfl
  obtain⟨x,hx⟩:∃x,zs.getD i 0=x:=⟨_,rfl⟩
  rw[hx]at hck
  have hdr:zs.drop i=x::zs.drop (i+1):=by
   rw[List.drop_eq_getElem_cons hlt,←hx];simp[hlt]
  have HR:Hid (r=x::zs.drop (i+1)):=by unfold Hid;rw[←HD.out,hdr]
  have HB:=Lib.hid hbg
  have hge:decide (zs.length≤i)=false:=by simp;omega
  clear hx hdr hbg
  go_enter Tryz.func30,Tryz.ntmps30
  go_wp2
  go_quiet (fail)
  go_upto_region 4 with(fail)
  generalize hW:World.setCell (World.drewN w _) ⟨g,1,none⟩ (.int .i64 (i+1))=W1
  have hgr:w.grownBy W1 (some g):=by rw[←hW];exact grownBy_trans (grownBy_drewN (World.grownBy.mk rfl rfl rfl (Nat.le_refl _) fun _ _ _=>rfl) _) (grownBy_store _ g 1 _)
  have e0:W1.cell? ⟨g,0,none⟩=some (.slice (some ⟨b,off,none⟩) zs.length cap):=by rw[←hW];exact(World.cell?_setCell_other _ _ _ _ (by simp)).trans hc0
  have e1:W1.cell? ⟨g,1,none⟩=some (.int .i64 (i+1)):=by rw[←hW];exact World.cell?_setCell_same _ _ _ hc1
  have ef:W1.frozen? ⟨g,1,none⟩=false:=by rw[←hW];exact(World.frozen?_setCell _ _ _ _).trans hf
  have ek:W1.cell? ⟨b,off+i,none⟩=some (.int .i64 x):=hgr.cell hck (by have:=HB.out;simp;omega)
  have hx1:IntKind.i64.wrap ((i:Int)+1-1)=i:=by rw[IntWalk.i64_in _ (by omega)];omega
  have hI1:=HI.out.grown hgr (fun b off e=>Nat.ne_of_lt (HP.out b off e))
  have HG:=Lib.hid hgr
  have HI1:=Lib.hid hI1
  have hS1:Src W1 g (zs.drop (i+1)):=⟨zs,i+1,_,cap,rfl,by omega,hl,e0,e1,ef,hI1,fun _=>HP.out⟩
  have HS1:=Lib.hid hS1
  clear hW hgr hI1 hc0 hc1 hf hck hS1
  go_quiet ((go_at_call 18;exact Calls.quiet_of_same (pick_quiet _ _ _ (by omega) (by omega))))
  go_wp2
  go_ret
  rw[HR.out]
  exact⟨rfl,HS1.out.below (below_drewN (Below.refl _ _) _),grownBy_drewN HG.out _⟩
 ·have hge:decide (zs.length≤i)=true:=by simp;omega
  have HR:Hid (r=[]):=by unfold Hid;rw[←HD.out];exact List.drop_of_length_le (by omega)
  go_enter Tryz.func30,Tryz.ntmps30
  go_wp2
  go_quiet (fail)
  go_wp2
  go_ret
  rw[HR.out]
  refine⟨rfl,⟨zs,i,p,cap,?_,hi,hl,hc0,hc1,hf,HI.out,HQ.out⟩,grownBy_drewN (World.grownBy.mk rfl rfl rfl (Nat.le_refl _) fun _ _ _=>rfl) _⟩
  exact List.drop_of_length_le (by omega)
end Go.Proofs.YtblcoicaeeiojaaGreatDoor
namespace Go.Proofs.YtblcoicaeeiojaaGreatDoor
open Go.RowKit Go.Sort
def SRow (w:World) (g cap:Nat) (d:Array Int):Prop :=
 ∃cur:Array Value,w.heap[g]? = some (.cells cur 3 (0,0))∧cur.size=cap∧d.size≤cap∧∀i,i<d.size→cur[i]? = some (.int .i64 d[i]!)
theorem SRow.cell {w:World} {g cap:Nat} {d:Array Int} (h:SRow w g cap d) {i:Nat} (hi:i<d.size):w.cell? ⟨g,i,none⟩=some (.int .i64 d[i]!):=by
 obtain⟨cur,h1,h2,h3,h4⟩:=h
 simp[World.cell?,h1,h4 i hi]
theorem SRow.soft {w:World} {g cap:Nat} {d:Array Int} (h:SRow w g cap d) (i:Nat):w.frozen? ⟨g,i,none⟩=false:=by
 obtain⟨cur,h1,_⟩:=h
 simp[World.frozen?,h1]
theorem SRow.lt {w:World} {g cap:Nat} {d:Array Int} (h:SRow w g cap d):g<w.heap.size:=by
 obtain⟨cur,h1,_⟩:=h
 exact(Array.getElem?_eq_some_iff.1 h1).1
theorem SRow.room {w:World} {g cap:Nat} {d:Array Int} (h:SRow w g cap d):d.size≤cap:=by obtain⟨cur,_,_,h3,_⟩:=h;exact h3
theorem SRow.drew {w:World} {g cap:Nat} {d:Array Int} (h:SRow w g cap d):SRow w.drew g cap d:=h
theorem SRow.drewN {w:World} {g cap:Nat} {d:Array Int} (h:SRow w g cap d) (n:Nat):SRow (w.drewN n) g cap d:=h
theorem SRow.set {w:World} {g cap:Nat} {d:Array Int} (h:SRow w g cap d) {i:Nat} (hi:i<d.size) (x:Int):SRow (w.setCell ⟨g,i,none⟩ (.int .i64 x)) g cap (d.setIfInBounds i x):=by
 obtain⟨cur,h1,h2,h3,h4⟩:=h
 refine⟨cur.setIfInBounds i (.int .i64 x),?_,by simpa using h2,by simpa using h3,fun k hk=>?_⟩
 ·rw[setCell_eq_setRow w g i cur _ _ _ h1];exact setRow_heap w g cur _ _ _ h1
 ·have hk':k<d.size:=by simpa using hk
  rw[Array.getElem?_setIfInBounds]
  by_cases e:i=k
  ·subst e
   rw[if_pos rfl,if_pos (by omega)]
   rw[getElem!_pos _ i (by simpa using hi)]
   simp
  ·rw[if_neg e,h4 k hk']
   congr 2
   have e2:(d.setIfInBounds i x)[k]! = d[k]! := by
    rw[getElem!_pos _ k (by simpa using hk'),getElem!_pos d k hk',Array.getElem_setIfInBounds,if_neg e]
   rw[e2]
theorem SRow.swp {w : World} {g cap : Nat} {d : Array Int} (h : SRow w g cap d) {i j : Nat} (hi : i < d.size) (hj : j < d.size) :
  SRow ((w.setCell ⟨g,i,none⟩ (.int .i64 d[j]!)).setCell ⟨g,j,none⟩ (.int .i64 d[i]!)) g cap (swp d i j):=(h.set hi _).set (by simpa using hj) _
theorem SRow.grown {w w':World} {g cap:Nat} {d:Array Int} {row:Option Nat} (h:SRow w g cap d) (hg:w.grownBy w' row) (hr:row≠some g):SRow w' g cap d:=by
 obtain⟨cur,h1,h2⟩:=h
 refine⟨cur,?_,h2⟩
 rw[hg.block g (Array.getElem?_eq_some_iff.1 h1).1 (fun e=>hr e.symm)]
 exact h1
theorem grown2 (w:World) (g i j:Nat) (u v:Value):w.grownBy ((w.setCell ⟨g,i,none⟩ u).setCell ⟨g,j,none⟩ v) (some g):=grownBy_trans (grownBy_store w g i u) (grownBy_store _ g j v)
theorem grown_drew {w w':World} {row:Option Nat} (h:w.grownBy w' row):w.grownBy w'.drew row:=⟨h.os,h.tape,h.output,h.size,h.block⟩
theorem grown_refl (w:World) (row:Option Nat):w.grownBy w row:=⟨rfl,rfl,rfl,Nat.le_refl _,fun _ _ _=>rfl⟩
theorem SRow.ofInts {w:World} {B:Nat} {v:Value} {xs:List Int} (h:Ints w B v xs) (h0:xs≠[]):∃g cap,v = .slice (some ⟨g,0,none⟩) xs.length cap∧B≤g∧cap≤maxLen∧SRow w g cap xs.toArray:=by
 obtain⟨h1,h2⟩:=h
 rcases h2 with⟨rfl,h3⟩|⟨g,cap,cur,rfl,hB,hg,hn,hc,hs,ht⟩
 ·exact absurd (List.eq_nil_of_length_eq_zero h3) h0
 ·refine⟨g,cap,rfl,hB,hc,cur,hg,by simpa using hs,by simpa using hn,fun i hi=>?_⟩
  have hi':i<xs.length:=by simpa using hi
  have e:(cur.toList.take (xs.length*1))[i]? = (xs.map (Value.int .i64))[i]? := by rw[ht]
  rw[List.getElem?_take,if_pos (by omega),Array.getElem?_toList]at e
  rw[e,List.getElem?_map,List.getElem?_eq_getElem hi',getElem!_pos _ i hi]
  simp
theorem SRow.toInts {w:World} {B g cap:Nat} {d:Array Int} (h:SRow w g cap d) (hB:B≤g) (hc:cap≤maxLen):Ints w B (.slice (some ⟨g,0,none⟩) d.size cap) d.toList:=by
 obtain⟨cur,h1,h2,h3,h4⟩:=h
 refine⟨by simp,.inr ⟨g,cap,cur,by simp,hB,h1,by simpa using h3,hc,by simpa using h2,?_⟩⟩
 apply List.ext_getElem?
 intro i
 rw[List.getElem?_take]
 by_cases hi:i<d.size
 ·rw[if_pos (by simpa using hi),Array.getElem?_toList,h4 i hi,List.getElem?_map,List.getElem?_eq_getElem (by simpa using hi),getElem!_pos d i hi]
  simp
 ·rw[if_neg (by simpa using hi),List.getElem?_eq_none (by simpa using hi)]
def SrtPost (g cap:Nat) (d:Array Int) (R:Array Int→Prop) (w:World) (e:Ending) (w':World):Prop :=
 e = .returned (.tuple #[])∧∃d':Array Int,SRow w' g cap d'∧d'.size=d.size∧R d'∧w.grownBy w' (some g)
theorem xch_zero (a b:Nat) (d:Nat→Int) (k:Nat):xchF a b 0 d k=d k:=by unfold xchF;rw[if_neg (by omega),if_neg (by omega)]
theorem xch_step {a b i:Nat} {d dk:Array Int} (h:∀k,dk[k]! = xchF a b i (fun k=>d[k]!) k) (ha:a+i<b) (hb:b+i<dk.size) (k:Nat):(swp dk (a+i) (b+i))[k]! = xchF a b (i+1) (fun k=>d[k]!) k:=by
 rw[swp_get dk (by omega) hb]
 have ka:=h (a+i)
 have kb:=h (b+i)
 have kk:=h k
 unfold xchF at *
 rw[if_neg (by omega),if_neg (by omega)]at ka kb
 by_cases e1:k=b+i
 ·rw[if_pos e1,ka,if_neg (by omega),if_pos (by omega)]
  simp only[e1];congr 1;omega
 ·rw[if_neg e1]
  by_cases e2:k=a+i
  ·rw[if_pos e2,kb,if_pos (by omega)]
   simp only[e2];congr 1;omega
  ·rw[if_neg e2,kk]
   by_cases c1:a≤k∧k<a+i
   ·rw[if_pos c1,if_pos (show a≤k∧k<a+(i+1) by omega)]
   ·rw[if_neg c1,if_neg (show ¬(a≤k∧k<a+(i+1)) by omega)]
    by_cases c2:b≤k∧k<b+i
    ·rw[if_pos c2,if_pos (show b≤k∧k<b+(i+1) by omega)]
    ·rw[if_neg c2,if_neg (show ¬(b≤k∧k<b+(i+1)) by omega)]
set_option maxHeartbeats 2000000 in
theorem swapRange_at (g cap a b n : Nat) (d : Array Int) (F : Value) (w : World) (hs : SRow w g cap d) (hl : d.size ≤ 1099511627776) (hab : a + n ≤ b) (hb : b + n ≤ d.size) :
  Calls Tryz.prog 304 #[.slice (some ⟨g,0,none⟩) d.size cap,.int .i64 a,.int .i64 b,.int .i64 n,F] w (SrtPost g cap d (fun d'=>(∀k,d'[k]! = xchF a b n (fun k=>d[k]!) k)∧PermIn a (b+n) d d') w):=by
 have HS:=Lib.hid hs
 obtain⟨N,hN⟩:∃N,d.size=N:=⟨_,rfl⟩
 rw[hN]at hl hb ⊢
 have HN:=Lib.hid hN
 clear hs hN
 go_enter Tryz.func304,Tryz.ntmps304
 go_wp2
 go_loopw [10] (fun u wr=>∃(i:Nat) (dk:Array Int),u = .int .i64 i∧i≤n∧Hid (dk.size=d.size)∧Hid (SRow wr g cap dk)∧Hid (∀k,dk[k]! = xchF a b i (fun k=>d[k]!) k)∧Hid (PermIn a (b+n) d dk)∧Hid (w.grownBy wr (some g))) (fun u _=>n-(intOf u).toNat)
 case atStart=>exact⟨0,d,rfl,Nat.zero_le _,rfl,HS,fun k=>(xch_zero _ _ _ _).symm,permIn_refl d a (b+n),World.grownBy.mk rfl rfl rfl (Nat.le_refl _) fun _ _ _=>rfl⟩
 case round =>
  obtain⟨i,dk,rfl,hi,hsz,hsr,hx,hp,hg⟩:=hrel
  by_cases hlt:i<n
  ·obtain⟨p,hpp⟩:∃p,a+i=p:=⟨_,rfl⟩
   obtain⟨q,hqq⟩:∃q,b+i=q:=⟨_,rfl⟩
   have hpz:(a:Int)+(i:Int)=(p:Int):=by omega
   have hqz:(b:Int)+(i:Int)=(q:Int):=by omega
   have hpN:p<N:=by omega
   have hqN:q<N:=by omega
   have hpq:p<q:=by omega
   obtain⟨X,hX⟩:∃X,dk[p]! = X:=⟨_,rfl⟩
   obtain⟨Y,hY⟩:∃Y,dk[q]! = Y:=⟨_,rfl⟩
   have c1:=hsr.out.cell (i:=p) (by rw[hsz.out,HN.out];omega)
   have c2:=hsr.out.cell (i:=q) (by rw[hsz.out,HN.out];omega)
   rw[hX]at c1
   rw[hY]at c2
   have f1:=hsr.out.soft p
   have f2:=hsr.out.soft q
   have HS2:Hid (SRow ((wr.setCell ⟨g,p,none⟩ (.int .i64 Y)).setCell ⟨g,q,none⟩ (.int .i64 X)) g cap (swp dk p q)):=by
    unfold Hid;rw[←hX,←hY];exact hsr.out.swp (by rw[hsz.out,HN.out];omega) (by rw[hsz.out,HN.out];omega)
   have HX2:Hid (∀k,(swp dk p q)[k]! = xchF a b (i+1) (fun k=>d[k]!) k):=by
    unfold Hid;rw[←hpp,←hqq];exact xch_step hx.out (by omega) (by rw[hsz.out,HN.out];omega)
   have HP2:Hid (PermIn a (b+n) d (swp dk p q)):=permIn_trans _ _ _ _ _ hp.out (swp_permIn dk a (b+n) p q (by omega) (by omega) (by omega) (by omega) (by rw[hsz.out,HN.out];omega))
   have HZ2:Hid ((swp dk p q).size=d.size):=by unfold Hid;rw[swp_size];exact hsz.out
   have HG2:Hid (w.grownBy ((wr.setCell ⟨g,p,none⟩ (.int .i64 Y)).setCell ⟨g,q,none⟩ (.int .i64 X)) (some g)):=grownBy_trans hg.out (grown2 _ _ _ _ _ _)
   clear hX hY hpp hqq hsr hsz hx hp
   go_wp2
   go_region
   go_wp2
   go_roundw
   case rel=>exact⟨i+1,swp dk p q,by go_num,by omega,HZ2,HS2.out,HX2,HP2,grown_drew HG2.out⟩
   case measure=>simp[intOf];omega
  ·obtain rfl:i=n:=by omega
   go_wp2
   go_end0
   exact⟨rfl,dk,hsr.out,hsz.out,⟨hx.out,hp.out⟩,hg.out⟩
set_option maxHeartbeats 400000 in
theorem nan_at (x:Int) (w:World):Calls Tryz.prog 279 #[.int .i64 x] w fun e w'=>e = .returned (.bool false)∧w'=w:=by
 have h:(x !=x)=false:=by simp
 go_enter Tryz.func279,Tryz.ntmps279
 go_wp2
 go_ret
 exact⟨rfl,rfl⟩
def cmpV (x y:Int):Int:=if x<y then -1 else if y<x then 1 else 0
set_option maxHeartbeats 400000 in
theorem cmpV_at (x y c:Int) (w:World) (hc:Hid (cmpV x y=c)):Calls Tryz.prog 246 #[.int .i64 x,.int .i64 y] w fun e w'=>e = .returned (.int .i64 c)∧w'=w:=by
 rcases(show x<y∨(¬x<y∧y<x)∨(¬x<y∧¬y<x) by omega)with h|⟨h,h2⟩|⟨h,h2⟩
 ·obtain rfl : -1=c:=by rw[←hc.out];unfold cmpV;rw[if_pos h]
  clear hc
  go_enter Tryz.func246,Tryz.ntmps246
  go_wp2_with (go_at_call 279;refine(nan_at _ _).mono ?_;rintro e w' ⟨rfl,rfl⟩)
  go_ret
  exact⟨rfl,rfl⟩
 ·obtain rfl:1=c:=by rw[←hc.out];unfold cmpV;rw[if_neg h,if_pos h2]
  clear hc
  go_enter Tryz.func246,Tryz.ntmps246
  go_wp2_with (go_at_call 279;refine(nan_at _ _).mono ?_;rintro e w' ⟨rfl,rfl⟩)
  go_ret
  exact⟨rfl,rfl⟩
 ·obtain rfl:0=c:=by rw[←hc.out];unfold cmpV;rw[if_neg h,if_neg h2]
  clear hc
  go_enter Tryz.func246,Tryz.ntmps246
  go_wp2_with (go_at_call 279;refine(nan_at _ _).mono ?_;rintro e w' ⟨rfl,rfl⟩)
  go_ret
  exact⟨rfl,rfl⟩
def CmpOk (l:List Int) (bx g:Nat) (w0:World):Prop :=
 ∀W,w0.grownBy W (some g)→∀x y c:Int,0≤x→x<l.length→0≤y→y<l.length→Hid (pcmpI l x y=c)→
  Calls Tryz.prog 245 #[.int .i64 x,.int .i64 y,.pointer (some ⟨bx,0,none⟩)] W fun e w'=>e = .returned (.int .i64 c)∧∃q,w'=W.drewN q
set_option maxHeartbeats 1000000 in
theorem closure_at (l : List Int) (p : Option Addr) (cap bx : Nat) (W : World) (hb : W.cell? ⟨bx, 0, none⟩ = some (.slice p l.length cap)) (hin : IntsIn W p l) (hl : l.length ≤ 17592186043904) (x y c : Int) (hx0 : 0 ≤ x) (hx1 : x < l.length) (hy0 : 0 ≤ y) (hy1 : y < l.length) (hc : Hid (pcmpI l x y = c)) :
  Calls Tryz.prog 245 #[.int .i64 x,.int .i64 y,.pointer (some ⟨bx,0,none⟩)] W fun e w'=>e = .returned (.int .i64 c)∧∃q,w'=W.drewN q:=by
 obtain⟨i,rfl⟩:∃i:Nat,x=i:=⟨x.toNat,by omega⟩
 obtain⟨j,rfl⟩:∃j:Nat,y=j:=⟨y.toNat,by omega⟩
 obtain⟨b1,o1,rfl,c1⟩:=hin i (by omega)
 obtain⟨b2,o2,e2,c2⟩:=hin j (by omega)
 cases e2
 have hcc:Hid (cmpV (l.getD i 0) (l.getD j 0)=c):=hc
 obtain⟨X,hX⟩:∃X,l.getD i 0=X:=⟨_,rfl⟩
 obtain⟨Y,hY⟩:∃Y,l.getD j 0=Y:=⟨_,rfl⟩
 rw[hX]at c1 hcc
 rw[hY]at c2 hcc
 clear hX hY hin hc
 go_enter Tryz.func245,Tryz.ntmps245
 go_wp2_with fail
 go_quiet ((go_at_call 246;exact Calls.quiet_of_same (cmpV_at _ _ c _ hcc)))
 go_wp2
 go_ret
 exact⟨rfl,_,rfl⟩
def Val (l:List Int) (d:Array Int):Prop:=∀i,i<d.size→0≤d[i]!∧d[i]! < l.length
theorem Val.perm {l:List Int} {a b:Nat} {d d':Array Int} (h:Val l d) (hp:PermIn a b d d') (hb:b≤d.size):Val l d':=by
 intro i hi
 rw[hp.1]at hi
 by_cases hin:a≤i∧i<b
 ·exact permIn_all d d' a b (fun x=>0≤x∧x<l.length) hb hp (fun i _ h2=>h i (by omega)) i hin.1 hin.2
 ·rw[hp.2.1 i (by omega)];exact h i hi
set_option maxHeartbeats 2000000 in
theorem rotate_at (g cap a m b : Nat) (d : Array Int) (F : Value) (w : World) (hs : SRow w g cap d) (hl : d.size ≤ 1099511627776) (ham : a < m) (hmb : m < b) (hb : b ≤ d.size) :
  Calls Tryz.prog 301 #[.slice (some ⟨g,0,none⟩) d.size cap,.int .i64 a,.int .i64 m,.int .i64 b,F] w (SrtPost g cap d (fun d'=>(∀k,d'[k]! = rotF a m b (fun k=>d[k]!) k)∧PermIn a b d d') w):=by
 have HS:=Lib.hid hs
 obtain⟨N,hN⟩:∃N,d.size=N:=⟨_,rfl⟩
 rw[hN]at hl hb ⊢
 have HN:=Lib.hid hN
 clear hs hN
 go_enter Tryz.func301,Tryz.ntmps301
 go_wp2
 go_loopw [10,11] (fun u v wr=>∃(i j:Nat) (dk:Array Int),u = .int .i64 i∧v = .int .i64 j∧1≤i∧1≤j∧a+i≤m∧m+j≤b∧Hid (dk.size=d.size)∧Hid (SRow wr g cap dk)∧Hid (∀k,rotF (m-i) m (m+j) (fun k=>dk[k]!) k=rotF a m b (fun k=>d[k]!) k)∧Hid (PermIn a b d dk)∧Hid (w.grownBy wr (some g))) (fun u v _=>(intOf u).toNat+(intOf v).toNat)
 case atStart=>exact⟨m-a,b-m,d,by go_num,by go_num,by omega,by omega,by omega,by omega,rfl,HS,fun k=>by rw[show m-(m-a)=a by omega,show m+(b-m)=b by omega],permIn_refl d a b,grown_refl _ _⟩
 case round =>
  obtain⟨i,j,dk,rfl,rfl,hi,hj,him,hjb,hsz,hsr,hx,hp,hg⟩:=hrel
  rcases Nat.lt_trichotomy i j with hlt|heq|hlt
  ·have hne:((i:Int) !=(j:Int))=true:=by simp;omega
   have hng:¬(j:Int)<(i:Int):=by omega
   obtain⟨s,hss⟩:∃s,m-i=s:=⟨_,rfl⟩
   obtain⟨t,htt⟩:∃t,m+j-i=t:=⟨_,rfl⟩
   have hsI:(m:Int)-(i:Int)=(s:Int):=by omega
   have htI:(m:Int)+(j:Int)-(i:Int)=(t:Int):=by omega
   go_wp2_with fail
   rw[←HN.out,←hsz.out]
   refine(swapRange_at g cap s t i dk F wr hsr.out (by rw[hsz.out,HN.out];exact hl) (by omega) (by rw[hsz.out,HN.out];omega)).mono ?_
   rintro e w1 ⟨rfl,d1,hs1,hz1,⟨hx1,hp1⟩,hg1⟩
   have HZ1:Hid (d1.size=d.size):=by unfold Hid;rw[hz1];exact hsz.out
   have HS1:=Lib.hid hs1
   have HG1:=Lib.hid (grownBy_trans hg.out hg1)
   have HX1:Hid (∀k,rotF (m-i) m (m+(j-i)) (fun k=>d1[k]!) k=rotF a m b (fun k=>d[k]!) k):=by
    intro k
    rw[←hx.out k,rotF_right (show i≤m by omega) hlt]
    exact rotF_congr (fun k=>by rw[hss,htt];exact hx1 k) k
   have HP1:Hid (PermIn a b d d1):=permIn_trans _ _ _ _ _ hp.out (permIn_mono dk d1 s (t+i) a b (by omega) (by omega) (by rw[hsz.out,HN.out];exact hb) hp1)
   have HN1:Hid (dk.size=N):=by unfold Hid;rw[hsz.out];exact HN.out
   rw[HN1.out]
   clear hs1 hz1 hx1 hp1 hg1 hx hp hg hsr hss htt
   go_wp2
   go_roundw
   case rel=>exact⟨i,j-i,d1,by go_num,by go_num,hi,by omega,him,by omega,HZ1,HS1,HX1,HP1,HG1⟩
   case measure=>simp[intOf];omega
  ·subst heq
   have hne:((i:Int) !=(i:Int))=false:=by simp
   obtain⟨s,hss⟩:∃s,m-i=s:=⟨_,rfl⟩
   have hsI:(m:Int)-(i:Int)=(s:Int):=by omega
   go_wp2_with fail
   rw[←HN.out,←hsz.out]
   refine(swapRange_at g cap s m i dk F wr hsr.out (by rw[hsz.out,HN.out];exact hl) (by omega) (by rw[hsz.out,HN.out];omega)).mono ?_
   rintro e w1 ⟨rfl,d1,hs1,hz1,⟨hx1,hp1⟩,hg1⟩
   have HZ1:Hid (d1.size=d.size):=by unfold Hid;rw[hz1];exact hsz.out
   have HS1:=Lib.hid hs1
   have HG1:=Lib.hid (grownBy_trans hg.out hg1)
   have HX1:Hid (∀k,d1[k]! = rotF a m b (fun k=>d[k]!) k):=by
    intro k
    rw[←hx.out k,rotF_end (show i≤m by omega),hx1 k,hss]
   have HP1:Hid (PermIn a b d d1):=permIn_trans _ _ _ _ _ hp.out (permIn_mono dk d1 s (m+i) a b (by omega) (by omega) (by rw[hsz.out,HN.out];exact hb) hp1)
   clear hs1 hz1 hx1 hp1 hg1 hx hp hg hsr hss
   go_wp2
   go_end0
   exact⟨rfl,d1,HS1.out,HZ1.out,⟨HX1.out,HP1.out⟩,HG1.out⟩
  ·have hne:((i:Int) !=(j:Int))=true:=by simp;omega
   have hng:(j:Int)<(i:Int):=by omega
   obtain⟨s,hss⟩:∃s,m-i=s:=⟨_,rfl⟩
   have hsI:(m:Int)-(i:Int)=(s:Int):=by omega
   go_wp2_with fail
   rw[←HN.out,←hsz.out]
   refine(swapRange_at g cap s m j dk F wr hsr.out (by rw[hsz.out,HN.out];exact hl) (by omega) (by rw[hsz.out,HN.out];omega)).mono ?_
   rintro e w1 ⟨rfl,d1,hs1,hz1,⟨hx1,hp1⟩,hg1⟩
   have HZ1:Hid (d1.size=d.size):=by unfold Hid;rw[hz1];exact hsz.out
   have HS1:=Lib.hid hs1
   have HG1:=Lib.hid (grownBy_trans hg.out hg1)
   have HX1:Hid (∀k,rotF (m-(i-j)) m (m+j) (fun k=>d1[k]!) k=rotF a m b (fun k=>d[k]!) k):=by
    intro k
    rw[←hx.out k,rotF_left (show i≤m by omega) hlt]
    exact rotF_congr (fun k=>by rw[hss];exact hx1 k) k
   have HP1:Hid (PermIn a b d d1):=permIn_trans _ _ _ _ _ hp.out (permIn_mono dk d1 s (m+j) a b (by omega) (by omega) (by rw[hsz.out,HN.out];exact hb) hp1)
   have HN1:Hid (dk.size=N):=by unfold Hid;rw[hsz.out];exact HN.out
   rw[HN1.out]
   clear hs1 hz1 hx1 hp1 hg1 hx hp hg hsr hss
   go_wp2
   go_roundw
   case rel=>exact⟨i-j,j,d1,by go_num,by go_num,by omega,hj,by omega,hjb,HZ1,HS1,HX1,HP1,HG1⟩
   case measure=>simp[intOf];omega
structure InnSt (l:List Int) (a j i:Nat) (x:Int) (d dj:Array Int):Prop where
 ins:Ins (ltT l) a j i dj
 at_:dj[j]! = x
 low:∀p,a≤p→p≤i→p≠j→dj[p]! < x
 perm:PermIn a (i+1) d dj
theorem InnSt.start {l:List Int} {a i:Nat} {d dk:Array Int} (hai:a≤i) (hi:i<d.size) (hp:PermIn a i d dk) (hs:SortedIn (ltT l) a i dk) (hd:∀p,a≤p→p<i→d[p]! < d[i]!):InnSt l a i i d[i]! d dk where
 ins:=⟨fun p q h1 h2 h3 h4 h5=>hs p q h1 h2 (by omega),fun q h1 h2=>by omega⟩
 at_:=hp.2.1 i (.inr (Nat.le_refl i))
 low p h1 h2 h3:=permIn_all d dk a i (fun y=>y<d[i]!) (by omega) hp hd p h1 (by omega)
 perm:=permIn_mono d dk a i a (i+1) (Nat.le_refl a) (by omega) (by omega) hp
theorem InnSt.step {l:List Int} {a j i:Nat} {x:Int} {d dj:Array Int} (h:InnSt l a (j+1) i x d dj) (haj:a≤j) (hji:j+1≤i) (hi:i<d.size) (hl:ltT l x dj[j]! = true):InnSt l a j i x d (swp dj (j+1) j):=by
 have hz:=h.perm.1
 have hsw:=swp_get dj (show j+1<dj.size by omega) (show j<dj.size by omega)
 refine⟨h.ins.step (by rw[h.at_];exact hl) haj (by omega),?_,?_,?_⟩
 ·rw[hsw,if_pos rfl];exact h.at_
 ·intro p h1 h2 h3
  rw[hsw,if_neg h3]
  by_cases e:p=j+1
  ·rw[if_pos e];exact h.low j haj (by omega) (by omega)
  ·rw[if_neg e];exact h.low p h1 h2 e
 ·exact permIn_trans _ _ _ _ _ h.perm (swp_permIn dj a (i+1) (j+1) j (by omega) (by omega) haj (by omega) (by omega))
set_option maxHeartbeats 4000000 in
theorem ins_at (l : List Int) (g cap bx a b : Nat) (d : Array Int) (w0 w : World) (hc : CmpOk l bx g w0) (hg0 : w0.grownBy w (some g)) (hv : Val l d) (hs : SRow w g cap d) (hl : d.size ≤ 1099511627776) (hab : a ≤ b) (hb : b ≤ d.size) (hd : ∀ i j, a ≤ i → i < j → j < b → d[i]! < d[j]!) :
  Calls Tryz.prog 291 #[.slice (some ⟨g,0,none⟩) d.size cap,.int .i64 a,.int .i64 b,.func (.func 245) #[] #[.pointer (some ⟨bx,0,none⟩)]] w (SrtPost g cap d (fun d'=>PermIn a b d d'∧SortedIn (ltT l) a b d') w):=by
 have HC:=Lib.hid hc
 have HG0:=Lib.hid hg0
 have HV:=Lib.hid hv
 have HS:=Lib.hid hs
 have HD:=Lib.hid hd
 obtain⟨N,hN⟩:∃N,d.size=N:=⟨_,rfl⟩
 rw[hN]at hl hb ⊢
 have HN:=Lib.hid hN
 clear hs hN hc hg0 hv hd
 go_enter Tryz.func291,Tryz.ntmps291
 go_wp2
 go_loopw [8] (fun u wr=>∃(i:Nat) (dk:Array Int),u = .int .i64 i∧a+1≤i∧(i≤b∨(b<i∧i=a+1∧dk=d))∧Hid (SRow wr g cap dk)∧Hid (PermIn a i d dk)∧Hid (SortedIn (ltT l) a i dk)∧Hid (w.grownBy wr (some g))) (fun u _=>b+1-(intOf u).toNat)
 case atStart=>exact⟨a+1,d,by go_num,by omega,by by_cases h:a+1≤b;exact .inl h;exact .inr ⟨by omega,rfl,rfl⟩,HS,permIn_refl d a (a+1),fun i j h1 h2 h3=>by omega,grown_refl _ _⟩
 case round =>
  obtain⟨i,dk,rfl,hai,hib,hsr,hp,hso,hg⟩:=hrel
  by_cases hlt:i<b
  ·have HI0:Hid (InnSt l a i i d[i]! d dk):=InnSt.start (by omega) (by rw[HN.out];omega) hp.out hso.out (fun p h1 h2=>HD.out p i h1 h2 hlt)
   obtain⟨x,hx⟩:∃x,d[i]! = x:=⟨_,rfl⟩
   have hvx:=HV.out i (by rw[HN.out];omega)
   rw[hx]at HI0 hvx
   obtain⟨hx0,hx1⟩:=hvx
   clear hx hp hso
   have hib2:i≤b:=by omega
   clear hib
   go_wp2
   go_loopw [9] (fun u wr2=>∃(j:Nat) (dj:Array Int),u = .int .i64 j∧a≤j∧j≤i∧Hid (SRow wr2 g cap dj)∧Hid (InnSt l a j i x d dj)∧Hid (w.grownBy wr2 (some g))) (fun u _=>(intOf u).toNat)
   case atStart=>exact⟨i,dk,rfl,by omega,Nat.le_refl _,hsr,HI0,hg⟩
   case round =>
    obtain⟨j,dj,rfl,haj,hji,hsj,hin,hg2⟩:=hrel
    have hzj:Hid (dj.size=N):=by unfold Hid;rw[hin.out.perm.1];exact HN.out
    by_cases hja:a<j
    ·obtain⟨jp,rfl⟩:∃jp,j=jp+1:=⟨j-1,by omega⟩
     obtain⟨j1,hj1⟩:∃j1,jp+1=j1:=⟨_,rfl⟩
     have c1:=hsj.out.cell (i:=jp+1) (by rw[hzj.out];omega)
     have c2:=hsj.out.cell (i:=jp) (by rw[hzj.out];omega)
     rw[hin.out.at_]at c1
     obtain⟨y,hy⟩:∃y,dj[jp]! = y:=⟨_,rfl⟩
     have hyx:y<x:=by rw[←hy];exact hin.out.low jp (by omega) (by omega) (by omega)
     have hvy:0≤y∧y<l.length:=by
      rw[←hy];exact(HV.out.perm hin.out.perm (by rw[HN.out];omega)) jp (by rw[hzj.out];omega)
     obtain⟨hy0,hy1⟩:=hvy
     rw[hy]at c2
     have f1:=hsj.out.soft (jp+1)
     have f2:=hsj.out.soft jp
     have HSW:Hid (SRow ((wr.setCell ⟨g,jp+1,none⟩ (.int .i64 y)).setCell ⟨g,jp,none⟩ (.int .i64 x)) g cap (swp dj (jp+1) jp)):=by
      unfold Hid;rw[←hy,←hin.out.at_];exact hsj.out.swp (by rw[hzj.out];omega) (by rw[hzj.out];omega)
     have HY:=Lib.hid hy
     have hjI:(jp:Int)+1=(j1:Int):=by omega
     have hjI2:(j1:Int)-1=(jp:Int):=by omega
     rw[hj1]at c1 f1 HSW ⊢
     have HJ1:=Lib.hid hj1
     have hjN:j1<N:=by omega
     have hjN2:jp<N:=by omega
     have hja2:a<j1:=by omega
     have hjne:j1≠jp:=by omega
     clear hy hj1 hja
     by_cases hcv:pcmpI l x y<0
     ·have HT:Hid (ltT l x y=true):=by unfold Hid;rw[←ltC_eq hyx];exact pcmpI_iff.1 hcv
      obtain⟨cv,hcve⟩:∃cv,pcmpI l x y=cv:=⟨_,rfl⟩
      rw[hcve]at hcv
      have HCV:=Lib.hid hcve
      clear hcve
      go_wp2_with fail
      go_quiet ((go_at_call 245;exact Calls.quiet_of (HC.out _ (grownBy_trans HG0.out (grownBy_drewN hg2.out _)) x y cv hx0 hx1 hy0 hy1 HCV)))
      have HSW2:Hid (SRow (((wr.drewN nq).setCell ⟨g,j1,none⟩ (.int .i64 y)).setCell ⟨g,jp,none⟩ (.int .i64 x)).drew g cap (swp dj j1 jp)):=HSW.out
      have HG3:Hid (w.grownBy (((wr.drewN nq).setCell ⟨g,j1,none⟩ (.int .i64 y)).setCell ⟨g,jp,none⟩ (.int .i64 x)).drew (some g)):=grown_drew (grownBy_trans (grownBy_drewN hg2.out nq) (grown2 _ _ _ _ _ _))
      have HIN:Hid (InnSt l a jp i x d (swp dj j1 jp)):=by
       unfold Hid;rw[←HJ1.out]
       exact hin.out.step (by omega) hji (by rw[HN.out];omega) (by rw[HY.out];exact HT.out)
      have e1:(wr.drewN nq).cell? ⟨g,j1,none⟩=some (.int .i64 x):=c1
      have e2:(wr.drewN nq).cell? ⟨g,jp,none⟩=some (.int .i64 y):=c2
      have e3:(wr.drewN nq).frozen? ⟨g,j1,none⟩=false:=f1
      have e4:(wr.drewN nq).frozen? ⟨g,jp,none⟩=false:=f2
      clear c1 c2 f1 f2 hsj hin HSW HT
      generalize wr.drewN nq=wq at e1 e2 e3 e4 HSW2 HG3 ⊢
      go_wp2_with fail
      go_region
      go_wp2
      go_roundw
      case rel=>exact⟨jp,swp dj j1 jp,rfl,by omega,by omega,HSW2,HIN,HG3⟩
      case measure=>simp[intOf];omega
     ·have HT:Hid (ltT l x y=false):=by
       unfold Hid;rw[←ltC_eq hyx]
       cases hb2:ltC l x y with
       | false=>rfl
       | true=>exact absurd (pcmpI_iff.2 hb2) hcv
      obtain⟨cv,hcve⟩:∃cv,pcmpI l x y=cv:=⟨_,rfl⟩
      rw[hcve]at hcv
      have HCV:=Lib.hid hcve
      have HSO:Hid (SortedIn (ltT l) a (i+1) dj):=hin.out.ins.stop (ltT_swo l) (Or.inr (by rw[Nat.add_sub_cancel,hin.out.at_,HY.out];exact HT.out))
      have HPE:=Lib.hid hin.out.perm
      clear hcve
      go_wp2_with fail
      go_quiet ((go_at_call 245;exact Calls.quiet_of (HC.out _ (grownBy_trans HG0.out (grownBy_drewN hg2.out _)) x y cv hx0 hx1 hy0 hy1 HCV)))
      go_wp2
      go_roundw
      case rel=>exact⟨i+1,dj,by go_num,by omega,.inl (by omega),hsj.out,HPE,HSO,grownBy_drewN hg2.out _⟩
      case measure=>simp[intOf];omega
    ·have HSO:Hid (SortedIn (ltT l) a (i+1) dj):=hin.out.ins.stop (ltT_swo l) (Or.inl (by omega))
     have HPE:=Lib.hid hin.out.perm
     have d1:decide ((a:Int)<(j:Int))=false:=decide_eq_false (by omega)
     have d2:decide (a<j)=false:=decide_eq_false (by omega)
     go_wp2_with fail
     go_quiet (fail)
     go_wp2
     go_roundw
     case rel=>exact⟨i+1,dj,by go_num,by omega,.inl (by omega),hsj.out,HPE,HSO,grownBy_drewN hg2.out _⟩
     case measure=>simp[intOf];omega
  ·rcases hib with hib|⟨hib,hia,rfl⟩
   ·obtain rfl:i=b:=by omega
    go_wp2
    go_end0
    exact⟨rfl,dk,hsr.out,hp.out.1,⟨hp.out,hso.out⟩,hg.out⟩
   ·go_wp2
    go_end0
    exact⟨rfl,dk,hsr.out,rfl,⟨permIn_refl dk a b,fun i j h1 h2 h3=>by omega⟩,hg.out⟩
end Go.Proofs.YtblcoicaeeiojaaGreatDoor
