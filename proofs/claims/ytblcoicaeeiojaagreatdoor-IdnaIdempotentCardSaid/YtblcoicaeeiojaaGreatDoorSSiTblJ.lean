/-
  keep.Tables: well-formed tables.
  keep.Tables: the walk.
-/
import Derived.Test.YtblcoicaeeiojaaGreatDoorSSiTblH
set_option linter.unusedSimpArgs false
set_option linter.unusedVariables false
namespace Go.Proofs.YtblcoicaeeiojaaGreatDoor
open Go.RowKit
structure TSt (w0 w:World) (gs g rb pb:Nat) (f:Nat→Value) (S:Nat→List Sp) (v6:Value) (sl r:List Int):Prop where
 src:Src w gs r
 box:BoxF w g f
 res:BoxF w rb (fun i => .slice none 0 0)
 cold:Cold w (fun b=>g<b∧v6.ownBlock≠some b) f S [] [] [] [] []
 sts:Ints w (pb+1) v6 sl
 pool:IntsIn w (some ⟨pb,0,none⟩) poolL
 bel:Below w0.heap.size w0 w
 ord:w0.heap.size≤rb∧rb<gs∧gs<g∧g<pb
 nil:∀i,(i=5∨7≤i)→i<12→f i = .slice none 0 0
section
variable {w0 w w1 w':World} {gs g rb pb:Nat} {f:Nat→Value} {S:Nat→List Sp} {v6:Value} {sl r r':List Int}
theorem TSt.own (h:TSt w0 w gs g rb pb f S v6 sl r):∀b,v6.ownBlock=some b→pb+1≤b∧b<w.heap.size:=fun b hb=>World.ownsRow.lt h.sts b hb
theorem TSt.step (h:TSt w0 w gs g rb pb f S v6 sl r) (hk:Keeps w w' (fun b=>b=gs)) (hs:Src w' gs r'):TSt w0 w' gs g rb pb f S v6 sl r':=by
 obtain⟨o1,o2,o3,o4⟩:=h.ord
 have h6:=h.own
 exact⟨hs,h.box.keeps hk (by omega),h.res.keeps hk (by omega),h.cold.keeps hk (fun b hb e hh=>by omega),hk.owns h.sts (fun b hb e=>by have:=h6 b hb;omega),IntsIn_keeps h.pool hk (by omega),h.bel.trans (hk.below h.bel.size (fun b hb e=>by omega)),h.ord,h.nil⟩
theorem TSt.below (h:TSt w0 w gs g rb pb f S v6 sl r) (hb:Below w.heap.size w w'):TSt w0 w' gs g rb pb f S v6 sl r :=
 h.step ((Keeps.of_below hb).weak (fun b hb e=>by omega)) (h.src.below hb)
theorem TSt.add {i : Nat} {v : Value} {L : List Sp} (h : TSt w0 w gs g rb pb f S v6 sl r) (hi : i < 7) (hi5 : i ≠ 5) (hs : Sets w w' g i v) (hv : SpV w' v L) (hl : v = f i ∨ ∀ b off n c, v = .slice (some ⟨b, off, none⟩) n c → w.heap.size ≤ b ∧ b < w'.heap.size) :
  TSt w0 w' gs g rb pb (upd f i v) (upd S i L) v6 sl r:=by
 obtain⟨o1,o2,o3,o4⟩:=h.ord
 have h6:=h.own
 have hlt:=h.box.lt
 have hk:=hs.keep
 refine⟨h.src.keeps hk (fun b hb e=>by omega),h.box.sets hs,h.res.keeps hk (by omega),h.cold.setS hi hk (by omega) ⟨hv,?_⟩,hk.owns h.sts (fun b hb e=>by have:=h6 b hb;omega),IntsIn_keeps h.pool hk (by omega),h.bel.trans (hk.below h.bel.size (fun b hb e=>by omega)),h.ord,fun j h1 h2=>by rw[upd_other _ _ (by omega)];exact h.nil j h1 h2⟩
 intro b off n c e
 rcases hl with hl|hl
 ·subst hl
  have:=(h.cold.sp i hi).2 b off n c e
  exact⟨this.1,Nat.lt_of_lt_of_le this.2 hk.size⟩
 ·have:=hl b off n c e
  exact⟨⟨by omega,fun e6=>by have:=h6 b e6;omega⟩,this.2⟩
theorem TSt.call {i : Nat} (h : TSt w0 w gs g rb pb f S v6 sl r) (hi : i < 7) (hi5 : i ≠ 5) (hl : (S i).length ≤ 1000) (s : Sp) (z : Int) :
  Calls Tryz.prog 34 #[.pointer (some ⟨g,i,none⟩),spV s,.int .i64 z] w (fun e w'=>e = .returned (.tuple #[])∧∃v,Keeps w w' (fun k=>k=g)∧TSt w0 w' gs g rb pb (upd f i v) (upd S i (addL (S i) s z)) v6 sl r):=by
 obtain⟨⟨p,c,hf,hin,_⟩,_⟩:=h.cold.sp i hi
 obtain⟨b1,b2⟩:=h.box i (by omega)
 refine(add_any g i p _ c (S i) s z w (by rw[b1,hf]) b2 hin rfl hl).mono ?_
 rintro e w' ⟨rfl,v,hs,hv,hl⟩
 exact⟨rfl,v,hs.keep,h.add hi hi5 hs hv (by rw[hf];exact hl)⟩
theorem TSt.more {v : Value} {z : Int} (h : TSt w0 w gs g rb pb f S v6 sl r) (ho : Ints w' (pb + 1) v (sl ++ [z])) (hg : w1.grownBy w' v6.ownBlock) (hv : v.ownBlock = v6.ownBlock ∨ v.ownBlock = some w1.heap.size) (hb : Below w.heap.size w w1) :
  TSt w0 w' gs g rb pb f S v (sl++[z]) r:=by
 obtain⟨o1,o2,o3,o4⟩:=h.ord
 have h6:=h.own
 have hz:=hb.size
 have hlt:=h.box.lt
 have hk:Keeps w w' (fun b=>v6.ownBlock=some b):=(Keeps.of_below hb).trans (Keeps.of_grown hg) (fun b hb e=>by omega) (fun _ _ e=>e)
 have hR:∀b,b≤pb→¬v6.ownBlock=some b:=fun b hb e=>by have:=h6 b e;omega
 have hnew:∀b,b<w.heap.size→v6.ownBlock≠some b→v.ownBlock≠some b:=by
  intro b hb hn e
  rcases hv with hv|hv
  ·exact hn (by rw[←hv,e])
  ·rw[hv]at e;injection e with e;omega
 refine⟨h.src.keeps hk (fun b hb=>hR b (by omega)),h.box.keeps hk (hR g (by omega)),h.res.keeps hk (hR rb (by omega)),?_,ho,IntsIn_keeps h.pool hk (hR pb (by omega)),h.bel.trans (hk.below h.bel.size (fun b hb e=>by have:=h6 b e;omega)),h.ord,h.nil⟩
 have h1:=h.cold.weak (Q:=fun b=>(g<b∧v6.ownBlock≠some b)∧b<w.heap.size) (fun b hb e=>⟨e,hb⟩)
 have h2:=h1.keeps hk (fun b hb e hh=>hh.1.2 e)
 exact h2.weak (fun b hb e=>⟨e.1.1,hnew b e.2 e.1.2⟩)
end
def UBox (w:World) (ub:Nat) (u:Nat→Int):Prop:=∀i,i<6→w.cell? ⟨ub,i,none⟩=some (.int .i64 (u i))∧w.frozen? ⟨ub,i,none⟩=false
theorem UBox.new (w:World) (u:Nat→Int) (t:TypeId):UBox (w.alloc (.cells #[.int .i64 (u 0),.int .i64 (u 1),.int .i64 (u 2),.int .i64 (u 3),.int .i64 (u 4),.int .i64 (u 5)] t)) w.heap.size u:=by
 intro i hi
 have:i=0∨i=1∨i=2∨i=3∨i=4∨i=5:=by omega
 rcases this with rfl|rfl|rfl|rfl|rfl|rfl<;>simp[World.cell?_alloc_new]
theorem UBox.keeps {w w':World} {R:Nat→Prop} {ub:Nat} {u:Nat→Int} (h:UBox w ub u) (hk:Keeps w w' R) (hr:¬R ub):UBox w' ub u:=by
 intro i hi
 obtain⟨h1,h2⟩:=h i hi
 exact⟨hk.cell h1 hr,(World.frozen?_of_block (a:=⟨ub,i,none⟩) (hk.block ub (World.block_lt_of_cell? w _ h1) hr)).trans h2⟩
theorem UBox.lt {w:World} {ub:Nat} {u:Nat→Int} (h:UBox w ub u):ub<w.heap.size:=World.block_lt_of_cell? w _ (h 0 (by omega)).1
theorem UBox.set {w:World} {ub i:Nat} {u:Nat→Int} (h:UBox w ub u) (hi:i<6) (v:Int):UBox (w.setCell ⟨ub,i,none⟩ (.int .i64 v)) ub (upd u i v):=by
 intro j hj
 obtain⟨h1,h2⟩:=h j hj
 refine⟨?_,(World.frozen?_setCell _ _ _ _).trans h2⟩
 by_cases e:j=i
 ·subst e;rw[upd_same];exact World.cell?_setCell_same _ _ _ h1
 ·rw[upd_other _ _ e];exact(World.cell?_setCell_other _ _ _ _ (by intro e2;cases e2;exact e rfl)).trans h1
theorem Six.set0 {u:Nat→Int} (h:Six u) {v:Int} (hv:v∈[u 0,2,1]):Six (upd u 0 v):=by
 simp only[List.mem_cons,List.not_mem_nil,or_false]at hv
 have:=h.cat
 refine⟨?_,h.cls,h.joi,h.bid,h.scr,h.sta⟩
 rw[upd_same];omega
theorem Six.set1 {u:Nat→Int} (h:Six u) {v:Int} (hv:v∈[u 1,0,1,9,202,220,230,254]):Six (upd u 1 v):=by
 simp only[List.mem_cons,List.not_mem_nil,or_false]at hv
 have:=h.cls
 refine⟨h.cat,?_,h.joi,h.bid,h.scr,h.sta⟩
 rw[upd_same];omega
theorem Six.set2 {u:Nat→Int} (h:Six u) {v:Int} (hv:v∈[u 2,0,1,2,3,4,5]):Six (upd u 2 v):=by
 simp only[List.mem_cons,List.not_mem_nil,or_false]at hv
 have:=h.joi
 refine⟨h.cat,h.cls,?_,h.bid,h.scr,h.sta⟩
 rw[upd_same];omega
theorem Six.set3 {u:Nat→Int} (h:Six u) {v:Int} (hv:v∈[u 3,0,1,2,3,4,8,10,11]):Six (upd u 3 v):=by
 simp only[List.mem_cons,List.not_mem_nil,or_false]at hv
 have:=h.bid
 refine⟨h.cat,h.cls,h.joi,?_,h.scr,h.sta⟩
 rw[upd_same];omega
theorem Six.set4 {u:Nat→Int} (h:Six u) {v:Int} (hv:v∈[u 4,0,1,2,3,6,7,9,10]):Six (upd u 4 v):=by
 simp only[List.mem_cons,List.not_mem_nil,or_false]at hv
 have:=h.scr
 refine⟨h.cat,h.cls,h.joi,h.bid,?_,h.sta⟩
 rw[upd_same];omega
theorem Six.set5 {u:Nat→Int} (h:Six u) {v:Int} (hv:v∈[u 5,0,1,2,4]):Six (upd u 5 v):=by
 simp only[List.mem_cons,List.not_mem_nil,or_false]at hv
 have:=h.sta
 refine⟨h.cat,h.cls,h.joi,h.bid,h.scr,?_⟩
 rw[upd_same];omega
structure Prog (k j:Nat) (S:Nat→List Sp):Prop where
 cat:PoolSp (if 0<j then k+1 else k) 8 (S 0)
 cls:PoolSp (if 1<j then k+1 else k) 254 (S 1)
 joi:PoolSp (if 2<j then k+1 else k) 5 (S 2)
 bid:PoolSp (if 3<j then k+1 else k) 11 (S 3)
 scr:PoolSp (if 4<j then k+1 else k) 60 (S 4)
 ign:PoolSp (if 5<j then k+1 else k) 1 (S 6)
 sta:S 5=[]
theorem Prog.add0 {k:Nat} {S:Nat→List Sp} (h:Prog k 0 S) (hk:k<28) {v:Int} (hv:v≤8):Prog k 1 (upd S 0 (addL (S 0) (poolAt k,poolAt k,0) v)):=⟨h.cat.add hk hv 0,h.cls,h.joi,h.bid,h.scr,h.ign,h.sta⟩
theorem Prog.add1 {k:Nat} {S:Nat→List Sp} (h:Prog k 1 S) (hk:k<28) {v:Int} (hv:v≤254):Prog k 2 (upd S 1 (addL (S 1) (poolAt k,poolAt k,0) v)):=⟨h.cat,h.cls.add hk hv 0,h.joi,h.bid,h.scr,h.ign,h.sta⟩
theorem Prog.add2 {k:Nat} {S:Nat→List Sp} (h:Prog k 2 S) (hk:k<28) {v:Int} (hv:v≤5):Prog k 3 (upd S 2 (addL (S 2) (poolAt k,poolAt k,0) v)):=⟨h.cat,h.cls,h.joi.add hk hv 0,h.bid,h.scr,h.ign,h.sta⟩
theorem Prog.add3 {k:Nat} {S:Nat→List Sp} (h:Prog k 3 S) (hk:k<28) {v:Int} (hv:v≤11):Prog k 4 (upd S 3 (addL (S 3) (poolAt k,poolAt k,0) v)):=⟨h.cat,h.cls,h.joi,h.bid.add hk hv 0,h.scr,h.ign,h.sta⟩
theorem Prog.add4 {k:Nat} {S:Nat→List Sp} (h:Prog k 4 S) (hk:k<28) {v:Int} (hv:v≤60):Prog k 5 (upd S 4 (addL (S 4) (poolAt k,poolAt k,0) v)):=⟨h.cat,h.cls,h.joi,h.bid,h.scr.add hk hv 0,h.ign,h.sta⟩
theorem Prog.add6 {k:Nat} {S:Nat→List Sp} (h:Prog k 5 S) (hk:k<28) {v:Int} (hv:v≤1):Prog k 6 (upd S 6 (addL (S 6) (poolAt k,poolAt k,0) v)):=⟨h.cat,h.cls,h.joi,h.bid,h.scr,h.ign.add hk hv 0,h.sta⟩
theorem Prog.skip6 {k:Nat} {S:Nat→List Sp} (h:Prog k 5 S) (hk:k<28):Prog k 6 S:=⟨h.cat,h.cls,h.joi,h.bid,h.scr,h.ign.skip hk,h.sta⟩
theorem Prog.len {k j:Nat} {S:Nat→List Sp} (h:Prog k j S) (hk:k<28):(S 0).length≤1000∧(S 1).length≤1000∧(S 2).length≤1000∧(S 3).length≤1000∧(S 4).length≤1000∧(S 6).length≤1000:=by
 have h0:=h.cat.len
 have h1:=h.cls.len
 have h2:=h.joi.len
 have h3:=h.bid.len
 have h4:=h.scr.len
 have h6:=h.ign.len
 have key:∀c:Prop,∀_:Decidable c,(if c then k+1 else k)≤28:=by intro c _;split<;>omega
 refine⟨Nat.le_trans h0 (Nat.le_trans (key _ _) (by omega)),Nat.le_trans h1 (Nat.le_trans (key _ _) (by omega)),Nat.le_trans h2 (Nat.le_trans (key _ _) (by omega)),Nat.le_trans h3 (Nat.le_trans (key _ _) (by omega)),Nat.le_trans h4 (Nat.le_trans (key _ _) (by omega)),Nat.le_trans h6 (Nat.le_trans (key _ _) (by omega))⟩
structure Lists (k:Nat) (S:Nat→List Sp) (sl:List Int):Prop where
 cat:PoolSp k 8 (S 0)
 cls:PoolSp k 254 (S 1)
 joi:PoolSp k 5 (S 2)
 bid:PoolSp k 11 (S 3)
 scr:PoolSp k 60 (S 4)
 ign:PoolSp k 1 (S 6)
 sta:S 5=[]
 len:sl.length=k
 five:∀i,i<k→ok5 (sl.getD i 0)
theorem Lists.prog {k:Nat} {S:Nat→List Sp} {sl:List Int} (h:Lists k S sl):Prog k 0 S:=⟨h.cat,h.cls,h.joi,h.bid,h.scr,h.ign,h.sta⟩
theorem Lists.next {k:Nat} {S S':Nat→List Sp} {sl:List Int} {z:Int} (h:Lists k S sl) (hp:Prog k 6 S') (hz:ok5 z):Lists (k+1) S' (sl++[z]):=by
 refine⟨hp.cat,hp.cls,hp.joi,hp.bid,hp.scr,hp.ign,hp.sta,by simp[h.len],fun i hi=>?_⟩
 have hl:=h.len
 by_cases e:i=k
 ·subst e
  have:(sl++[z]).getD i 0=z:=by simp[List.getD,hl]
  rw[this];exact hz
 ·have:(sl++[z]).getD i 0=sl.getD i 0:=by simp only[List.getD_eq_getElem?_getD];rw[List.getElem?_append_left (by omega)]
  rw[this];exact h.five i (by omega)
theorem Lists.start:Lists 0 (fun _=>[]) []:=⟨PoolSp.nil _,PoolSp.nil _,PoolSp.nil _,PoolSp.nil _,PoolSp.nil _,PoolSp.nil _,rfl,rfl,fun i h=>absurd h (Nat.not_lt_zero _)⟩
theorem store12 (w : World) (rb : Nat) (v0 v1 v2 v3 v4 v5 v6 v7 v8 v9 v10 v11 : Value) {f : Nat → Value} (h : BoxF w rb f) :
  BoxT (World.setCell (World.setCell (World.setCell (World.setCell (World.setCell (World.setCell (World.setCell (World.setCell (World.setCell (World.setCell (World.setCell (World.setCell w ⟨rb,0,none⟩ v0) ⟨rb,1,none⟩ v1) ⟨rb,2,none⟩ v2) ⟨rb,3,none⟩ v3) ⟨rb,4,none⟩ v4) ⟨rb,5,none⟩ v5) ⟨rb,6,none⟩ v6) ⟨rb,7,none⟩ v7) ⟨rb,8,none⟩ v8) ⟨rb,9,none⟩ v9) ⟨rb,10,none⟩ v10) ⟨rb,11,none⟩ v11) rb ⟨v0,v1,v2,v3,v4,v5,v6,v7,v8,v9,v10,v11⟩∧Keeps w (World.setCell (World.setCell (World.setCell (World.setCell (World.setCell (World.setCell (World.setCell (World.setCell (World.setCell (World.setCell (World.setCell (World.setCell w ⟨rb,0,none⟩ v0) ⟨rb,1,none⟩ v1) ⟨rb,2,none⟩ v2) ⟨rb,3,none⟩ v3) ⟨rb,4,none⟩ v4) ⟨rb,5,none⟩ v5) ⟨rb,6,none⟩ v6) ⟨rb,7,none⟩ v7) ⟨rb,8,none⟩ v8) ⟨rb,9,none⟩ v9) ⟨rb,10,none⟩ v10) ⟨rb,11,none⟩ v11) (fun k=>k=rb):=by
 have h0:=h.sets (Sets.store w rb 0 v0 _ (h 0 (by omega)).1)
 have h1:=h0.sets (Sets.store _ rb 1 v1 _ (h0 1 (by omega)).1)
 have h2:=h1.sets (Sets.store _ rb 2 v2 _ (h1 2 (by omega)).1)
 have h3:=h2.sets (Sets.store _ rb 3 v3 _ (h2 3 (by omega)).1)
 have h4:=h3.sets (Sets.store _ rb 4 v4 _ (h3 4 (by omega)).1)
 have h5:=h4.sets (Sets.store _ rb 5 v5 _ (h4 5 (by omega)).1)
 have h6:=h5.sets (Sets.store _ rb 6 v6 _ (h5 6 (by omega)).1)
 have h7:=h6.sets (Sets.store _ rb 7 v7 _ (h6 7 (by omega)).1)
 have h8:=h7.sets (Sets.store _ rb 8 v8 _ (h7 8 (by omega)).1)
 have h9:=h8.sets (Sets.store _ rb 9 v9 _ (h8 9 (by omega)).1)
 have h10:=h9.sets (Sets.store _ rb 10 v10 _ (h9 10 (by omega)).1)
 have h11:=h10.sets (Sets.store _ rb 11 v11 _ (h10 11 (by omega)).1)
 exact⟨h11.box,(((((((((((Keeps.store w rb 0 v0).trans (Keeps.store _ rb 1 v1) (S:=fun k=>k=rb) (fun _ _ e=>e) (fun _ _ e=>e)).trans (Keeps.store _ rb 2 v2) (S:=fun k=>k=rb) (fun _ _ e=>e) (fun _ _ e=>e)).trans (Keeps.store _ rb 3 v3) (S:=fun k=>k=rb) (fun _ _ e=>e) (fun _ _ e=>e)).trans (Keeps.store _ rb 4 v4) (S:=fun k=>k=rb) (fun _ _ e=>e) (fun _ _ e=>e)).trans (Keeps.store _ rb 5 v5) (S:=fun k=>k=rb) (fun _ _ e=>e) (fun _ _ e=>e)).trans (Keeps.store _ rb 6 v6) (S:=fun k=>k=rb) (fun _ _ e=>e) (fun _ _ e=>e)).trans (Keeps.store _ rb 7 v7) (S:=fun k=>k=rb) (fun _ _ e=>e) (fun _ _ e=>e)).trans (Keeps.store _ rb 8 v8) (S:=fun k=>k=rb) (fun _ _ e=>e) (fun _ _ e=>e)).trans (Keeps.store _ rb 9 v9) (S:=fun k=>k=rb) (fun _ _ e=>e) (fun _ _ e=>e)).trans (Keeps.store _ rb 10 v10) (S:=fun k=>k=rb) (fun _ _ e=>e) (fun _ _ e=>e)).trans (Keeps.store _ rb 11 v11) (S:=fun k=>k=rb) (fun _ _ e=>e) (fun _ _ e=>e)⟩
end Go.Proofs.YtblcoicaeeiojaaGreatDoor
namespace Go.Proofs.YtblcoicaeeiojaaGreatDoor
open Go.RowKit
def NewSrc (zs:List Int) (w:World) (e:Ending) (w':World):Prop :=
 ∃g,e = .returned (.pointer (some ⟨g,0,none⟩))∧w.heap.size≤g∧Src w' g zs∧Below w.heap.size w w'
set_option maxHeartbeats 400000 in
theorem from_any (p : Option Addr) (cap : Nat) (zs : List Int) (w : World) (hin : IntsIn w p zs) (hl : zs.length ≤ 17592186043904) :
  Calls Tryz.prog 29 #[.slice p zs.length cap] w (NewSrc zs w):=by
 have HI:=Lib.hid hin
 by_cases h0:zs=[]
 ·subst h0
  clear hin
  go_enter Tryz.func29,Tryz.ntmps29
  go_wp2
  go_ret
  refine⟨w.heap.size,rfl,Nat.le_refl _,⟨[],0,p,cap,rfl,Nat.le_refl _,by simp,?_,?_,?_,HI.out.alloc _,fun h=>absurd rfl h⟩,(Below.refl _ _).alloc (Nat.le_refl _) _⟩
  ·simp
  ·simp
  ·simp
 ·have hp:∀b off,p=some ⟨b,off,none⟩→b<w.heap.size:=by
   intro b off e
   obtain⟨b',off',e',hc⟩:=hin 0 (List.length_pos_iff.2 h0)
   rw[e]at e'
   cases e'
   have:=World.block_lt_of_cell? w _ hc
   simp only at this
   omega
  have HP:=Lib.hid hp
  clear hin hp
  go_enter Tryz.func29,Tryz.ntmps29
  go_wp2
  go_ret
  refine⟨w.heap.size,rfl,Nat.le_refl _,⟨zs,0,p,cap,rfl,Nat.zero_le _,hl,?_,?_,?_,HI.out.alloc _,fun _=>HP.out⟩,(Below.refl _ _).alloc (Nat.le_refl _) _⟩
  ·simp
  ·simp
  ·simp
abbrev nilC:Array Value:=#[.slice none 0 0,.slice none 0 0,.slice none 0 0,.slice none 0 0,.slice none 0 0,.slice none 0 0,.slice none 0 0,.slice none 0 0,.slice none 0 0,.slice none 0 0,.slice none 0 0,.slice none 0 0]
theorem BoxF.new (w:World) (t:TypeId):BoxF (w.alloc (.cells nilC t)) w.heap.size (fun _ => .slice none 0 0):=by
 intro i hi
 have:i=0∨i=1∨i=2∨i=3∨i=4∨i=5∨i=6∨i=7∨i=8∨i=9∨i=10∨i=11:=by omega
 rcases this with rfl|rfl|rfl|rfl|rfl|rfl|rfl|rfl|rfl|rfl|rfl|rfl<;>simp[World.cell?_alloc_new]
def UB6 (w:World) (ub:Nat) (a0 a1 a2 a3 a4 a5:Int):Prop :=
 (w.cell? ⟨ub,0,none⟩=some (.int .i64 a0)∧w.cell? ⟨ub,1,none⟩=some (.int .i64 a1)∧w.cell? ⟨ub,2,none⟩=some (.int .i64 a2)∧w.cell? ⟨ub,3,none⟩=some (.int .i64 a3)∧w.cell? ⟨ub,4,none⟩=some (.int .i64 a4)∧w.cell? ⟨ub,5,none⟩=some (.int .i64 a5))∧
  ∀j,w.frozen? ⟨ub,j,none⟩=false
def B6 (a0 a1 a2 a3 a4 a5:Int):Prop:=(0≤a0∧a0≤8)∧(0≤a1∧a1≤254)∧(0≤a2∧a2≤5)∧(0≤a3∧a3≤11)∧(0≤a4∧a4≤60)∧ok5 a5
section
variable {w w':World} {R:Nat→Prop} {ub:Nat} {a0 a1 a2 a3 a4 a5:Int}
theorem UB6.new (w:World) (t:TypeId) (a0 a1 a2 a3 a4 a5:Int):UB6 (w.alloc (.cells #[.int .i64 a0,.int .i64 a1,.int .i64 a2,.int .i64 a3,.int .i64 a4,.int .i64 a5] t)) w.heap.size a0 a1 a2 a3 a4 a5:=by
 refine⟨⟨?_,?_,?_,?_,?_,?_⟩,fun j=>?_⟩<;>simp[World.cell?_alloc_new]
theorem UB6.lt (h:UB6 w ub a0 a1 a2 a3 a4 a5):ub<w.heap.size:=World.block_lt_of_cell? w _ h.1.1
theorem UB6.keeps (h:UB6 w ub a0 a1 a2 a3 a4 a5) (hk:Keeps w w' R) (hr:¬R ub):UB6 w' ub a0 a1 a2 a3 a4 a5:=by
 obtain⟨⟨h0,h1,h2,h3,h4,h5⟩,hf⟩:=h
 have hlt:=World.block_lt_of_cell? w _ h0
 exact⟨⟨hk.cell h0 hr,hk.cell h1 hr,hk.cell h2 hr,hk.cell h3 hr,hk.cell h4 hr,hk.cell h5 hr⟩,fun j=>(World.frozen?_of_block (a:=⟨ub,j,none⟩) (hk.block ub hlt hr)).trans (hf j)⟩
theorem UB6.set0 (h:UB6 w ub a0 a1 a2 a3 a4 a5) (v:Int):UB6 (w.setCell ⟨ub,0,none⟩ (.int .i64 v)) ub v a1 a2 a3 a4 a5:=by
 obtain⟨⟨h0,h1,h2,h3,h4,h5⟩,hf⟩:=h
 exact⟨⟨World.cell?_setCell_same _ _ _ h0,(World.cell?_setCell_other _ ⟨ub,0,none⟩ ⟨ub,1,none⟩ _ (by simp)).trans h1,(World.cell?_setCell_other _ ⟨ub,0,none⟩ ⟨ub,2,none⟩ _ (by simp)).trans h2,(World.cell?_setCell_other _ ⟨ub,0,none⟩ ⟨ub,3,none⟩ _ (by simp)).trans h3,(World.cell?_setCell_other _ ⟨ub,0,none⟩ ⟨ub,4,none⟩ _ (by simp)).trans h4,(World.cell?_setCell_other _ ⟨ub,0,none⟩ ⟨ub,5,none⟩ _ (by simp)).trans h5⟩,fun j=>(World.frozen?_setCell _ _ _ _).trans (hf j)⟩
theorem UB6.set1 (h:UB6 w ub a0 a1 a2 a3 a4 a5) (v:Int):UB6 (w.setCell ⟨ub,1,none⟩ (.int .i64 v)) ub a0 v a2 a3 a4 a5:=by
 obtain⟨⟨h0,h1,h2,h3,h4,h5⟩,hf⟩:=h
 exact⟨⟨(World.cell?_setCell_other _ ⟨ub,1,none⟩ ⟨ub,0,none⟩ _ (by simp)).trans h0,World.cell?_setCell_same _ _ _ h1,(World.cell?_setCell_other _ ⟨ub,1,none⟩ ⟨ub,2,none⟩ _ (by simp)).trans h2,(World.cell?_setCell_other _ ⟨ub,1,none⟩ ⟨ub,3,none⟩ _ (by simp)).trans h3,(World.cell?_setCell_other _ ⟨ub,1,none⟩ ⟨ub,4,none⟩ _ (by simp)).trans h4,(World.cell?_setCell_other _ ⟨ub,1,none⟩ ⟨ub,5,none⟩ _ (by simp)).trans h5⟩,fun j=>(World.frozen?_setCell _ _ _ _).trans (hf j)⟩
theorem UB6.set2 (h:UB6 w ub a0 a1 a2 a3 a4 a5) (v:Int):UB6 (w.setCell ⟨ub,2,none⟩ (.int .i64 v)) ub a0 a1 v a3 a4 a5:=by
 obtain⟨⟨h0,h1,h2,h3,h4,h5⟩,hf⟩:=h
 exact⟨⟨(World.cell?_setCell_other _ ⟨ub,2,none⟩ ⟨ub,0,none⟩ _ (by simp)).trans h0,(World.cell?_setCell_other _ ⟨ub,2,none⟩ ⟨ub,1,none⟩ _ (by simp)).trans h1,World.cell?_setCell_same _ _ _ h2,(World.cell?_setCell_other _ ⟨ub,2,none⟩ ⟨ub,3,none⟩ _ (by simp)).trans h3,(World.cell?_setCell_other _ ⟨ub,2,none⟩ ⟨ub,4,none⟩ _ (by simp)).trans h4,(World.cell?_setCell_other _ ⟨ub,2,none⟩ ⟨ub,5,none⟩ _ (by simp)).trans h5⟩,fun j=>(World.frozen?_setCell _ _ _ _).trans (hf j)⟩
theorem UB6.set3 (h:UB6 w ub a0 a1 a2 a3 a4 a5) (v:Int):UB6 (w.setCell ⟨ub,3,none⟩ (.int .i64 v)) ub a0 a1 a2 v a4 a5:=by
 obtain⟨⟨h0,h1,h2,h3,h4,h5⟩,hf⟩:=h
 exact⟨⟨(World.cell?_setCell_other _ ⟨ub,3,none⟩ ⟨ub,0,none⟩ _ (by simp)).trans h0,(World.cell?_setCell_other _ ⟨ub,3,none⟩ ⟨ub,1,none⟩ _ (by simp)).trans h1,(World.cell?_setCell_other _ ⟨ub,3,none⟩ ⟨ub,2,none⟩ _ (by simp)).trans h2,World.cell?_setCell_same _ _ _ h3,(World.cell?_setCell_other _ ⟨ub,3,none⟩ ⟨ub,4,none⟩ _ (by simp)).trans h4,(World.cell?_setCell_other _ ⟨ub,3,none⟩ ⟨ub,5,none⟩ _ (by simp)).trans h5⟩,fun j=>(World.frozen?_setCell _ _ _ _).trans (hf j)⟩
theorem UB6.set4 (h:UB6 w ub a0 a1 a2 a3 a4 a5) (v:Int):UB6 (w.setCell ⟨ub,4,none⟩ (.int .i64 v)) ub a0 a1 a2 a3 v a5:=by
 obtain⟨⟨h0,h1,h2,h3,h4,h5⟩,hf⟩:=h
 exact⟨⟨(World.cell?_setCell_other _ ⟨ub,4,none⟩ ⟨ub,0,none⟩ _ (by simp)).trans h0,(World.cell?_setCell_other _ ⟨ub,4,none⟩ ⟨ub,1,none⟩ _ (by simp)).trans h1,(World.cell?_setCell_other _ ⟨ub,4,none⟩ ⟨ub,2,none⟩ _ (by simp)).trans h2,(World.cell?_setCell_other _ ⟨ub,4,none⟩ ⟨ub,3,none⟩ _ (by simp)).trans h3,World.cell?_setCell_same _ _ _ h4,(World.cell?_setCell_other _ ⟨ub,4,none⟩ ⟨ub,5,none⟩ _ (by simp)).trans h5⟩,fun j=>(World.frozen?_setCell _ _ _ _).trans (hf j)⟩
theorem UB6.set5 (h:UB6 w ub a0 a1 a2 a3 a4 a5) (v:Int):UB6 (w.setCell ⟨ub,5,none⟩ (.int .i64 v)) ub a0 a1 a2 a3 a4 v:=by
 obtain⟨⟨h0,h1,h2,h3,h4,h5⟩,hf⟩:=h
 exact⟨⟨(World.cell?_setCell_other _ ⟨ub,5,none⟩ ⟨ub,0,none⟩ _ (by simp)).trans h0,(World.cell?_setCell_other _ ⟨ub,5,none⟩ ⟨ub,1,none⟩ _ (by simp)).trans h1,(World.cell?_setCell_other _ ⟨ub,5,none⟩ ⟨ub,2,none⟩ _ (by simp)).trans h2,(World.cell?_setCell_other _ ⟨ub,5,none⟩ ⟨ub,3,none⟩ _ (by simp)).trans h3,(World.cell?_setCell_other _ ⟨ub,5,none⟩ ⟨ub,4,none⟩ _ (by simp)).trans h4,World.cell?_setCell_same _ _ _ h5⟩,fun j=>(World.frozen?_setCell _ _ _ _).trans (hf j)⟩
end
def TablesPost (w:World) (e:Ending) (w':World):Prop :=
 ∃(x:TV) (T:Tb),e = .returned x.agg∧TabV w' x T∧Made T∧(∀p n c,x.a9 = .slice p n c→n≤c)∧Below w.heap.size w w'
theorem TSt.cellP {w0 w:World} {gs g rb pb:Nat} {f:Nat→Value} {S:Nat→List Sp} {v6:Value} {sl r:List Int} (h:TSt w0 w gs g rb pb f S v6 sl r) (k:Nat) (hk:k<28):w.cell? ⟨pb,k,none⟩=some (.int .i64 (poolAt k)):=by
 obtain⟨b,off,e,hc⟩:=h.pool k (by rw[pool_len];exact hk)
 cases e
 rw[pool_get k hk]at hc
 simpa using hc
theorem Cur.keepsC {w w':World} {R:Nat→Prop} {b:Nat} {f t v:Int} (h:Cur w b f t v) (hk:Keeps w w' R) (hr:¬R b):Cur w' b f t v:=by
 obtain⟨h1,h2,h3,h4,h5⟩:=h
 exact⟨hk.cell h1 hr,hk.cell h2 hr,hk.cell h3 hr,(World.frozen?_of_block (a:=⟨b,0,none⟩) (hk.block b h5 hr)).trans h4,Nat.lt_of_lt_of_le h5 hk.size⟩
section
variable {w:World} {P:Nat→Prop} {f:Nat→Value} {S:Nat→List Sp} {E M D R:List Mp} {X:List Int}
theorem Cold.setD {v9 v10:Value} {D':List Mp} {X':List Int} (h:Cold w P f S E M D R X) (h9:MpO w P v9 D') (h10:InO w P v10 X'):Cold w P (upd (upd f 9 v9) 10 v10) S E M D' R X' :=
 ⟨fun i hi=>by rw[upd_other _ _ (by omega),upd_other _ _ (by omega)];exact h.sp i hi,h.ext,h.map,h9,h10,h.pro⟩
theorem Cold.setM {v8 v5:Value} {M':List Mp} {L:List Sp} (h:Cold w P f S E M D R X) (h8:MpO w P v8 M') (h5:SpO w P v5 L):Cold w P (upd (upd f 8 v8) 5 v5) (upd S 5 L) E M' D R X:=by
 refine⟨fun i hi=>?_,h.ext,h8,h.dec,h.exc,h.pro⟩
 by_cases e:i=5
 ·subst e;rw[upd_same,upd_same];exact h5
 ·rw[upd_other _ _ e,upd_other _ _ e,upd_other _ _ (by omega)];exact h.sp i hi
theorem Cold.setR {v:Value} {R':List Mp} (h:Cold w P f S E M D R X) (h11:MpO w P v R'):Cold w P (upd f 11 v) S E M D R' X :=
 ⟨fun i hi=>by rw[upd_other _ _ (by omega)];exact h.sp i hi,h.ext,h.map,h.dec,h.exc,h11⟩
theorem Cold.setE {v:Value} {E':List Mp} (h:Cold w P f S E M D R X) (h7:MpO w P v E'):Cold w P (upd f 7 v) S E' M D R X :=
 ⟨fun i hi=>by rw[upd_other _ _ (by omega)];exact h.sp i hi,h7,h.map,h.dec,h.exc,h.pro⟩
end
theorem made_of {S : Nat → List Sp} {sl : List Int} {St : List Sp} {E M D R : List Mp} {X : List Int} (h : Lists 28 S sl) (hm : MapOk 28 M St) (hd : DecOk 5 D X) (hp : ProOk 5 (S 6) R) (he : E = [] ∨ E = [(12539, [7, 8])]) :
  Made (tbOf (upd S 5 St) E M D R X) :=
 ⟨h.cat,h.cls,h.joi,h.bid,h.scr,h.ign,hm,hd,hp,he⟩
theorem ext_new (w:World) (n:Nat) (hn:w.heap.size=n) (P:Nat→Prop) (h1:P n) (h2:P (n+1)):MpO ((w.alloc (.cells #[.int .i64 7,.int .i64 8] 3)).alloc (.cells #[.int .i64 12539,.slice (some ⟨n,0,none⟩) 2 2] 73)) P (.slice (some ⟨n+1,0,none⟩) 1 1) [(12539,[7,8])]:=by
 subst hn
 have e1:(w.alloc (.cells #[.int .i64 7,.int .i64 8] 3)).heap.size=w.heap.size+1:=by simp
 refine⟨_,_,rfl,fun b off n c e=>?_,by simp,fun k hk=>?_⟩
 ·cases e;exact⟨h2,by simp⟩
 ·obtain rfl:k=0:=by simp at hk;omega
  refine⟨w.heap.size+1,0,.slice (some ⟨w.heap.size,0,none⟩) 2 2,rfl,?_,?_,⟨_,2,rfl,(lit_ints w #[.int .i64 7,.int .i64 8] [7,8] 3 rfl).alloc _,by simp⟩,fun b off n c e=>?_⟩
  ·rw[←e1];simp[World.cell?_alloc_new]
  ·rw[←e1];simp[World.cell?_alloc_new]
  ·cases e;exact⟨h1,by simp;omega⟩
set_option maxRecDepth 100000 in
set_option maxHeartbeats 16000000 in
theorem tables_any (p : Option Addr) (cap : Nat) (zs : List Int) (w : World) (hin : IntsIn w p zs) (hl : zs.length ≤ 17592186043904) :
  Calls Tryz.prog 11 #[.slice p zs.length cap] w (TablesPost w):=by
 have HI:=Lib.hid hin
 have HL:=Lib.hid hl
 clear hin hl
 obtain⟨y,hy⟩:∃y,nextV zs 3=y:=⟨_,rfl⟩
 have HY:=Lib.hid hy
 clear hy
 go_enter Tryz.func11,Tryz.ntmps11
 have hba:=(Below.refl w.heap.size w).alloc (Nat.le_refl _) (.cells nilC 26)
 have HR0:=Lib.hid (BoxF.new w 26)
 have HBa:=Lib.hid hba
 have HIa:=Lib.hid (HI.out.below hba)
 have hsza:(w.alloc (.cells nilC 26)).heap.size=w.heap.size+1:=by simp
 clear hba
 go_wp2_with fail
 refine(from_any p cap zs _ HIa.out HL.out).mono ?_
 rintro e w1 ⟨gs,rfl,hgs,hs1,hb1⟩
 have hgs1:w.heap.size<gs:=by omega
 have hlt1:=hs1.lt
 have hbb:=(Below.refl w1.heap.size w1).alloc (Nat.le_refl _) (.cells nilC 26)
 have HR1:=Lib.hid ((HR0.out.below hb1).below hbb)
 have HB1:=Lib.hid ((HBa.out.trans (hb1.mono HBa.out.size)).trans (hbb.mono (by have:=HBa.out.size;have:=hb1.size;omega)))
 have HS1:=Lib.hid (hs1.below hbb)
 have HG1:=Lib.hid (BoxF.new w1 26)
 have hszb:(w1.alloc (.cells nilC 26)).heap.size=w1.heap.size+1:=by simp
 clear hs1 hb1 hbb hgs HR0 HBa HIa hsza
 go_wp2_with fail
 refine(next_at gs zs 3 y _ HS1.out (by omega) (by omega) HY).mono ?_
 rintro e w2 ⟨rfl,hs2,hg2⟩
 have hk2:=next_keeps hg2
 have HR2:=Lib.hid (HR1.out.keeps hk2 (by omega))
 have HG2:=Lib.hid (HG1.out.keeps hk2 (by omega))
 have HB2:=Lib.hid (HB1.out.trans (hk2.below HB1.out.size (fun b _ e=>by omega)))
 have HS2:=Lib.hid hs2
 have hz2:=hk2.size
 have HZ2:Hid (w1.heap.size<w2.heap.size):=by unfold Hid;omega
 clear hs2 hg2 hk2 HR1 HG1 HB1 HS1 hz2 hszb
 go_wp2_with fail
 refine(pool_any _).mono ?_
 rintro e w3 ⟨rfl,hp,hz,hb3⟩
 have HD:Hid (TSt w w3 gs w1.heap.size w.heap.size w2.heap.size (fun _ => .slice none 0 0) (fun _=>[]) (.slice none 0 0) [] zs.tail) :=
  ⟨HS2.out.below hb3,HG2.out.below hb3,HR2.out.below hb3,⟨fun i _=>SpO.nil _ _,MpO.nil _ _,MpO.nil _ _,MpO.nil _ _,InO.nil _ _,MpO.nil _ _⟩,Ints.nil _ _,hp,HB2.out.trans (hb3.mono HB2.out.size),⟨Nat.le_refl _,hgs1,hlt1,HZ2.out⟩,fun _ _ _=>rfl⟩
 clear hp hz hb3 HS2 HG2 HR2 HB2 HZ2 hgs1 hlt1
 generalize w1.heap.size=g at HD ⊢
 generalize w2.heap.size=pb at HD ⊢
 generalize w.heap.size=rb at HD ⊢
 go_wp2
 generalize (y==0)=Wd
 go_loopw [6,21] (fun sv iv wr=>∃(k:Nat) (f:Nat→Value) (S:Nat→List Sp) (sl r:List Int),k≤28∧iv = .int .i64 k∧Hid (TSt w wr gs g rb pb f S sv sl r)∧Hid (Lists k S sl)) (fun _ iv _=>28-(intOf iv).toNat)
 case atStart=>exact⟨0,_,_,_,_,by omega,rfl,HD,Lists.start⟩
 case round =>
  obtain⟨k,f,S,sl,r,hk,rfl,hd,hls⟩:=hrel
  clear HD
  by_cases hk28:k<28
  ·have hki:(k:Int)<28:=by omega
   have x1:=hd.out.cellP k hk28
   have hpm:=pool_mem k hk28
   have HP0:=Lib.hid hls.out.prog
   have HA0:Hid (∀(S:Nat→List Sp) (v:Int),v≤8→Prog k 0 S→Prog k 1 (upd S 0 (addL (S 0) (poolAt k,poolAt k,0) v))):=fun S v hv h=>h.add0 hk28 hv
   have HA1:Hid (∀(S:Nat→List Sp) (v:Int),v≤254→Prog k 1 S→Prog k 2 (upd S 1 (addL (S 1) (poolAt k,poolAt k,0) v))):=fun S v hv h=>h.add1 hk28 hv
   have HA2:Hid (∀(S:Nat→List Sp) (v:Int),v≤5→Prog k 2 S→Prog k 3 (upd S 2 (addL (S 2) (poolAt k,poolAt k,0) v))):=fun S v hv h=>h.add2 hk28 hv
   have HA3:Hid (∀(S:Nat→List Sp) (v:Int),v≤11→Prog k 3 S→Prog k 4 (upd S 3 (addL (S 3) (poolAt k,poolAt k,0) v))):=fun S v hv h=>h.add3 hk28 hv
   have HA4:Hid (∀(S:Nat→List Sp) (v:Int),v≤60→Prog k 4 S→Prog k 5 (upd S 4 (addL (S 4) (poolAt k,poolAt k,0) v))):=fun S v hv h=>h.add4 hk28 hv
   have HA6:Hid (∀(S:Nat→List Sp),Prog k 5 S→Prog k 6 (upd S 6 (addL (S 6) (poolAt k,poolAt k,0) 1))):=fun S h=>h.add6 hk28 (by omega)
   generalize poolAt k=c at x1 hpm HA0 HA1 HA2 HA3 HA4 HA6
   obtain⟨o1,o2,o3,o4⟩:=hd.out.ord
   have hpbz:pb<wr.heap.size:=World.block_lt_of_cell? wr _ x1
   have HPM:=Lib.hid hpm
   clear hpm
   go_wp2_with fail
   refine(usual_any c _ HPM.out).mono ?_
   rintro e w4 ⟨u,hu,rfl,hb4⟩
   obtain⟨a0,ha0⟩:∃a,u 0=a:=⟨_,rfl⟩
   obtain⟨a1,ha1⟩:∃a,u 1=a:=⟨_,rfl⟩
   obtain⟨a2,ha2⟩:∃a,u 2=a:=⟨_,rfl⟩
   obtain⟨a3,ha3⟩:∃a,u 3=a:=⟨_,rfl⟩
   obtain⟨a4,ha4⟩:∃a,u 4=a:=⟨_,rfl⟩
   obtain⟨a5,ha5⟩:∃a,u 5=a:=⟨_,rfl⟩
   have HB6:Hid (B6 a0 a1 a2 a3 a4 a5):=by
    rw[←ha0,←ha1,←ha2,←ha3,←ha4,←ha5]
    exact⟨hu.cat,hu.cls,hu.joi,hu.bid,hu.scr,hu.sta⟩
   simp only[sixV,ha0,ha1,ha2,ha3,ha4,ha5]
   clear ha0 ha1 ha2 ha3 ha4 ha5 hu
   have hb5:=(Below.refl w4.heap.size w4).alloc (Nat.le_refl _) (.cells #[.int .i64 a0,.int .i64 a1,.int .i64 a2,.int .i64 a3,.int .i64 a4,.int .i64 a5] 62)
   have HKU:=Lib.hid (((Keeps.of_below hb4).trans (Keeps.of_below hb5) (S:=fun b=>b=gs) (fun b hb e=>by omega) (fun b hb e=>by have:=hb4.size;omega)))
   have HSU:=Lib.hid ((hd.out.src.below hb4).below hb5)
   have HUU:=Lib.hid (UB6.new w4 62 a0 a1 a2 a3 a4 a5)
   have hub:wr.heap.size≤w4.heap.size:=hb4.size
   clear x1 hb4 hb5
   go_upto_if 27 with(fail)
   generalize (w4.alloc (.cells #[.int .i64 a0,.int .i64 a1,.int .i64 a2,.int .i64 a3,.int .i64 a4,.int .i64 a5] 62))=wU at HKU HSU HUU ⊢
   generalize w4.heap.size=ub at HUU hub ⊢
   have hubg:ub≠gs:=by omega
   go_cut [10] (fun v wx=>∃(b0 b1 b2 b3 b4 b5:Int) (r':List Int),v = .pointer (some ⟨ub,0,none⟩)∧Hid (B6 b0 b1 b2 b3 b4 b5)∧Hid (UB6 wx ub b0 b1 b2 b3 b4 b5)∧Hid (Keeps wr wx (fun b=>b=gs))∧Hid (Src wx gs r'))
   case first =>
    cases Wd with
    | true =>
     obtain⟨h0,h1,h2,h3,h4,h5⟩:=HB6.out
     have H0:=Lib.hid h0
     have H1:=Lib.hid h1
     have H2:=Lib.hid h2
     have H3:=Lib.hid h3
     have H4:=Lib.hid h4
     have H5:=Lib.hid h5
     clear h0 h1 h2 h3 h4 h5
     obtain⟨⟨c0,c1,c2,c3,c4,c5⟩,cf⟩:=HUU.out
     clear cf
     go_wp2_with fail
     refine(choose_any gs _ wU.heap.size 0 3 3 [a0,2,1] _ (HSU.out.alloc _) (lit_ints wU #[.int .i64 a0,.int .i64 2,.int .i64 1] [a0,2,1] 3 rfl) rfl (by omega) (by omega) (by have:=HSU.out.lt;omega)).mono ?_
     rintro e w10 ⟨v0,r10,rfl,hv0,hs0,hg0⟩
     have hk0:=(Keeps.alloc wU (.cells #[.int .i64 a0,.int .i64 2,.int .i64 1] 3)).trans (next_keeps hg0) (S:=fun b=>b=gs) (fun _ _ e=>e.elim) (fun _ _ e=>e)
     have HUn0:=Lib.hid (HUU.out.keeps hk0 hubg)
     have HV0:Hid (0≤v0∧v0≤8):=by
      simp only[List.mem_cons,List.not_mem_nil,or_false]at hv0
      have:=H0.out
      unfold Hid
      omega
     obtain⟨⟨d0,d1,d2,d3,d4,d5⟩,df0⟩:=HUn0.out
     have df:=df0 0
     have hst0:=Keeps.store w10 ub 0 (.int .i64 v0)
     have HKm0:=Lib.hid ((HKU.out.trans hk0 (fun _ _ e=>e) (fun _ _ e=>e)).trans hst0 (S:=fun b=>b=gs) (fun _ _ e=>e) (fun b hb e=>by omega))
     have HUm0:=Lib.hid (HUn0.out.set0 v0)
     have HSm0:=Lib.hid (hs0.keeps hst0 (fun b hb e=>by omega))
     have HZ0:Hid (w10.heap.size=(w10.setCell ⟨ub,0,none⟩ (.int .i64 v0)).heap.size):=by unfold Hid;simp[World.setCell]
     clear hv0 hs0 hg0 hk0 HUn0 df0 hst0 HSU HKU HUU H0 c0 c1 c2 c3 c4 c5
     go_wp2_with fail
     rw[HZ0.out]
     clear d0 d1 d2 d3 d4 d5 df
     generalize (w10.setCell ⟨ub,0,none⟩ (.int .i64 v0))=W0 at HSm0 HKm0 HUm0 ⊢
     refine(choose_any gs _ W0.heap.size 0 8 8 [a1,0,1,9,202,220,230,254] _ (HSm0.out.alloc _) (lit_ints W0 #[.int .i64 a1,.int .i64 0,.int .i64 1,.int .i64 9,.int .i64 202,.int .i64 220,.int .i64 230,.int .i64 254] [a1,0,1,9,202,220,230,254] 3 rfl) rfl (by omega) (by omega) (by have:=HSm0.out.lt;omega)).mono ?_
     rintro e w11 ⟨v1,r11,rfl,hv1,hs1,hg1⟩
     have hk1:=(Keeps.alloc W0 (.cells #[.int .i64 a1,.int .i64 0,.int .i64 1,.int .i64 9,.int .i64 202,.int .i64 220,.int .i64 230,.int .i64 254] 3)).trans (next_keeps hg1) (S:=fun b=>b=gs) (fun _ _ e=>e.elim) (fun _ _ e=>e)
     have HUn1:=Lib.hid (HUm0.out.keeps hk1 hubg)
     have HV1:Hid (0≤v1∧v1≤254):=by
      simp only[List.mem_cons,List.not_mem_nil,or_false]at hv1
      have:=H1.out
      unfold Hid
      omega
     obtain⟨⟨d0,d1,d2,d3,d4,d5⟩,df0⟩:=HUn1.out
     have df:=df0 1
     have hst1:=Keeps.store w11 ub 1 (.int .i64 v1)
     have HKm1:=Lib.hid ((HKm0.out.trans hk1 (fun _ _ e=>e) (fun _ _ e=>e)).trans hst1 (S:=fun b=>b=gs) (fun _ _ e=>e) (fun b hb e=>by omega))
     have HUm1:=Lib.hid (HUn1.out.set1 v1)
     have HSm1:=Lib.hid (hs1.keeps hst1 (fun b hb e=>by omega))
     have HZ1:Hid (w11.heap.size=(w11.setCell ⟨ub,1,none⟩ (.int .i64 v1)).heap.size):=by unfold Hid;simp[World.setCell]
     clear hv1 hs1 hg1 hk1 HUn1 df0 hst1 HSm0 HKm0 HUm0 H1
     go_wp2_with fail
     rw[HZ1.out]
     clear d0 d1 d2 d3 d4 d5 df
     generalize (w11.setCell ⟨ub,1,none⟩ (.int .i64 v1))=W1 at HSm1 HKm1 HUm1 ⊢
     refine(choose_any gs _ W1.heap.size 0 7 7 [a2,0,1,2,3,4,5] _ (HSm1.out.alloc _) (lit_ints W1 #[.int .i64 a2,.int .i64 0,.int .i64 1,.int .i64 2,.int .i64 3,.int .i64 4,.int .i64 5] [a2,0,1,2,3,4,5] 3 rfl) rfl (by omega) (by omega) (by have:=HSm1.out.lt;omega)).mono ?_
     rintro e w12 ⟨v2,r12,rfl,hv2,hs2,hg2⟩
     have hk2:=(Keeps.alloc W1 (.cells #[.int .i64 a2,.int .i64 0,.int .i64 1,.int .i64 2,.int .i64 3,.int .i64 4,.int .i64 5] 3)).trans (next_keeps hg2) (S:=fun b=>b=gs) (fun _ _ e=>e.elim) (fun _ _ e=>e)
     have HUn2:=Lib.hid (HUm1.out.keeps hk2 hubg)
     have HV2:Hid (0≤v2∧v2≤5):=by
      simp only[List.mem_cons,List.not_mem_nil,or_false]at hv2
      have:=H2.out
      unfold Hid
      omega
     obtain⟨⟨d0,d1,d2,d3,d4,d5⟩,df0⟩:=HUn2.out
     have df:=df0 2
     have hst2:=Keeps.store w12 ub 2 (.int .i64 v2)
     have HKm2:=Lib.hid ((HKm1.out.trans hk2 (fun _ _ e=>e) (fun _ _ e=>e)).trans hst2 (S:=fun b=>b=gs) (fun _ _ e=>e) (fun b hb e=>by omega))
     have HUm2:=Lib.hid (HUn2.out.set2 v2)
     have HSm2:=Lib.hid (hs2.keeps hst2 (fun b hb e=>by omega))
     have HZ2:Hid (w12.heap.size=(w12.setCell ⟨ub,2,none⟩ (.int .i64 v2)).heap.size):=by unfold Hid;simp[World.setCell]
     clear hv2 hs2 hg2 hk2 HUn2 df0 hst2 HSm1 HKm1 HUm1 H2
     go_wp2_with fail
     rw[HZ2.out]
     clear d0 d1 d2 d3 d4 d5 df
     generalize (w12.setCell ⟨ub,2,none⟩ (.int .i64 v2))=W2 at HSm2 HKm2 HUm2 ⊢
     refine(choose_any gs _ W2.heap.size 0 9 9 [a3,0,1,2,3,4,8,10,11] _ (HSm2.out.alloc _) (lit_ints W2 #[.int .i64 a3,.int .i64 0,.int .i64 1,.int .i64 2,.int .i64 3,.int .i64 4,.int .i64 8,.int .i64 10,.int .i64 11] [a3,0,1,2,3,4,8,10,11] 3 rfl) rfl (by omega) (by omega) (by have:=HSm2.out.lt;omega)).mono ?_
     rintro e w13 ⟨v3,r13,rfl,hv3,hs3,hg3⟩
     have hk3:=(Keeps.alloc W2 (.cells #[.int .i64 a3,.int .i64 0,.int .i64 1,.int .i64 2,.int .i64 3,.int .i64 4,.int .i64 8,.int .i64 10,.int .i64 11] 3)).trans (next_keeps hg3) (S:=fun b=>b=gs) (fun _ _ e=>e.elim) (fun _ _ e=>e)
     have HUn3:=Lib.hid (HUm2.out.keeps hk3 hubg)
     have HV3:Hid (0≤v3∧v3≤11):=by
      simp only[List.mem_cons,List.not_mem_nil,or_false]at hv3
      have:=H3.out
      unfold Hid
      omega
     obtain⟨⟨d0,d1,d2,d3,d4,d5⟩,df0⟩:=HUn3.out
     have df:=df0 3
     have hst3:=Keeps.store w13 ub 3 (.int .i64 v3)
     have HKm3:=Lib.hid ((HKm2.out.trans hk3 (fun _ _ e=>e) (fun _ _ e=>e)).trans hst3 (S:=fun b=>b=gs) (fun _ _ e=>e) (fun b hb e=>by omega))
     have HUm3:=Lib.hid (HUn3.out.set3 v3)
     have HSm3:=Lib.hid (hs3.keeps hst3 (fun b hb e=>by omega))
     have HZ3:Hid (w13.heap.size=(w13.setCell ⟨ub,3,none⟩ (.int .i64 v3)).heap.size):=by unfold Hid;simp[World.setCell]
     clear hv3 hs3 hg3 hk3 HUn3 df0 hst3 HSm2 HKm2 HUm2 H3
     go_wp2_with fail
     rw[HZ3.out]
     clear d0 d1 d2 d3 d4 d5 df
     generalize (w13.setCell ⟨ub,3,none⟩ (.int .i64 v3))=W3 at HSm3 HKm3 HUm3 ⊢
     refine(choose_any gs _ W3.heap.size 0 9 9 [a4,0,1,2,3,6,7,9,10] _ (HSm3.out.alloc _) (lit_ints W3 #[.int .i64 a4,.int .i64 0,.int .i64 1,.int .i64 2,.int .i64 3,.int .i64 6,.int .i64 7,.int .i64 9,.int .i64 10] [a4,0,1,2,3,6,7,9,10] 3 rfl) rfl (by omega) (by omega) (by have:=HSm3.out.lt;omega)).mono ?_
     rintro e w14 ⟨v4,r14,rfl,hv4,hs4,hg4⟩
     have hk4:=(Keeps.alloc W3 (.cells #[.int .i64 a4,.int .i64 0,.int .i64 1,.int .i64 2,.int .i64 3,.int .i64 6,.int .i64 7,.int .i64 9,.int .i64 10] 3)).trans (next_keeps hg4) (S:=fun b=>b=gs) (fun _ _ e=>e.elim) (fun _ _ e=>e)
     have HUn4:=Lib.hid (HUm3.out.keeps hk4 hubg)
     have HV4:Hid (0≤v4∧v4≤60):=by
      simp only[List.mem_cons,List.not_mem_nil,or_false]at hv4
      have:=H4.out
      unfold Hid
      omega
     obtain⟨⟨d0,d1,d2,d3,d4,d5⟩,df0⟩:=HUn4.out
     have df:=df0 4
     have hst4:=Keeps.store w14 ub 4 (.int .i64 v4)
     have HKm4:=Lib.hid ((HKm3.out.trans hk4 (fun _ _ e=>e) (fun _ _ e=>e)).trans hst4 (S:=fun b=>b=gs) (fun _ _ e=>e) (fun b hb e=>by omega))
     have HUm4:=Lib.hid (HUn4.out.set4 v4)
     have HSm4:=Lib.hid (hs4.keeps hst4 (fun b hb e=>by omega))
     have HZ4:Hid (w14.heap.size=(w14.setCell ⟨ub,4,none⟩ (.int .i64 v4)).heap.size):=by unfold Hid;simp[World.setCell]
     clear hv4 hs4 hg4 hk4 HUn4 df0 hst4 HSm3 HKm3 HUm3 H4
     go_wp2_with fail
     rw[HZ4.out]
     clear d0 d1 d2 d3 d4 d5 df
     generalize (w14.setCell ⟨ub,4,none⟩ (.int .i64 v4))=W4 at HSm4 HKm4 HUm4 ⊢
     refine(choose_any gs _ W4.heap.size 0 5 5 [a5,0,1,2,4] _ (HSm4.out.alloc _) (lit_ints W4 #[.int .i64 a5,.int .i64 0,.int .i64 1,.int .i64 2,.int .i64 4] [a5,0,1,2,4] 3 rfl) rfl (by omega) (by omega) (by have:=HSm4.out.lt;omega)).mono ?_
     rintro e w15 ⟨v5,r15,rfl,hv5,hs5,hg5⟩
     have hk5:=(Keeps.alloc W4 (.cells #[.int .i64 a5,.int .i64 0,.int .i64 1,.int .i64 2,.int .i64 4] 3)).trans (next_keeps hg5) (S:=fun b=>b=gs) (fun _ _ e=>e.elim) (fun _ _ e=>e)
     have HUn5:=Lib.hid (HUm4.out.keeps hk5 hubg)
     have HV5:Hid (ok5 v5):=by
      simp only[List.mem_cons,List.not_mem_nil,or_false]at hv5
      have:=H5.out
      unfold ok5 at this
      unfold Hid ok5
      omega
     obtain⟨⟨d0,d1,d2,d3,d4,d5⟩,df0⟩:=HUn5.out
     have df:=df0 5
     have hst5:=Keeps.store w15 ub 5 (.int .i64 v5)
     have HKm5:=Lib.hid ((HKm4.out.trans hk5 (fun _ _ e=>e) (fun _ _ e=>e)).trans hst5 (S:=fun b=>b=gs) (fun _ _ e=>e) (fun b hb e=>by omega))
     have HUm5:=Lib.hid (HUn5.out.set5 v5)
     have HSm5:=Lib.hid (hs5.keeps hst5 (fun b hb e=>by omega))
     have HZ5:Hid (w15.heap.size=(w15.setCell ⟨ub,5,none⟩ (.int .i64 v5)).heap.size):=by unfold Hid;simp[World.setCell]
     clear hv5 hs5 hg5 hk5 HUn5 df0 hst5 HSm4 HKm4 HUm4 H5
     go_wp2_with fail
     go_meet
     exact⟨v0,v1,v2,v3,v4,v5,_,rfl,⟨HV0.out,HV1.out,HV2.out,HV3.out,HV4.out,HV5.out⟩,HUm5,HKm5,HSm5⟩
    | false =>
     go_wp2_with fail
     go_meet
     exact⟨a0,a1,a2,a3,a4,a5,_,rfl,HB6,HUU,HKU,HSU⟩
   case rest =>
    obtain⟨b0,b1,b2,b3,b4,b5,r5,rfl,hb6,hu6,hk6,hs6⟩:=hcut
    clear HKU HSU HUU HB6
    have HT0:=Lib.hid (hd.out.step hk6.out hs6.out)
    clear hk6 hs6 hd
    have hbx:=(Below.refl wc.heap.size wc).alloc (Nat.le_refl _) (.cells #[.int .i64 c,.int .i64 c,.int .i64 0] 66)
    have HT:=Lib.hid (HT0.out.below hbx)
    have hubw:=hu6.out.lt
    have HU:=Lib.hid (hu6.out.keeps (Keeps.of_below hbx) (by omega))
    have HX:=Lib.hid (Cur.new wc c c 0 66)
    have hxg:wc.heap.size≠g:=by have:=HT0.out.box.lt;omega
    have hxbg:wc.heap.size≠gs:=by have:=HT0.out.src.lt;omega
    have hubg2:ub≠g:=by have:=HT0.out.box.lt;have:=HT0.out.bel.size;omega
    obtain⟨p0,p1,p2,p3,p4,p5⟩:=hb6.out
    have HB:=Lib.hid (And.intro p0.2 (And.intro p1.2 (And.intro p2.2 (And.intro p3.2 p4.2))))
    have H5:=Lib.hid p5
    obtain⟨⟨c0,_,_,_,_,_⟩,_⟩:=hu6.out
    clear p0 p1 p2 p3 p4 p5 hb6 HT0 hbx hu6
    go_wp2_with fail
    clear c0
    refine(HT.out.call (i:=0) (by omega) (by omega) (HP0.out.len hk28).1 (c,c,0) b0).mono ?_
    rintro e wA1 ⟨rfl,vv0,hkA,htA⟩
    have HT1:=Lib.hid htA
    have HPr1:=Lib.hid (HA0.out _ _ HB.out.1 HP0.out)
    have HU1:=Lib.hid (HU.out.keeps hkA hubg2)
    have HX1:Hid (Cur wA1 wc.heap.size c c 0):=HX.out.keepsC hkA hxg
    clear htA hkA HT HU HX
    generalize upd _ 0 vv0=f1 at HT1
    generalize upd _ 0 (addL _ (c,c,0) b0)=S1 at HT1 HPr1
    obtain⟨⟨c0,c1,c2,c3,c4,c5⟩,_⟩:=HU1.out
    obtain⟨x0,x1,x2,_,_⟩:=HX1.out
    go_wp2_with fail
    clear c0 c1 c2 c3 c4 c5 x0 x1 x2
    refine(HT1.out.call (i:=1) (by omega) (by omega) (HPr1.out.len hk28).2.1 (c,c,0) b1).mono ?_
    rintro e wA2 ⟨rfl,vv1,hkA,htA⟩
    have HT2:=Lib.hid htA
    have HPr2:=Lib.hid (HA1.out _ _ HB.out.2.1 HPr1.out)
    have HU2:=Lib.hid (HU1.out.keeps hkA hubg2)
    have HX2:Hid (Cur wA2 wc.heap.size c c 0):=HX1.out.keepsC hkA hxg
    clear htA hkA HT1 HU1 HX1
    generalize upd _ 1 vv1=f2 at HT2
    generalize upd _ 1 (addL _ (c,c,0) b1)=S2 at HT2 HPr2
    obtain⟨⟨c0,c1,c2,c3,c4,c5⟩,_⟩:=HU2.out
    obtain⟨x0,x1,x2,_,_⟩:=HX2.out
    go_wp2_with fail
    clear c0 c1 c2 c3 c4 c5 x0 x1 x2
    refine(HT2.out.call (i:=2) (by omega) (by omega) (HPr2.out.len hk28).2.2.1 (c,c,0) b2).mono ?_
    rintro e wA3 ⟨rfl,vv2,hkA,htA⟩
    have HT3:=Lib.hid htA
    have HPr3:=Lib.hid (HA2.out _ _ HB.out.2.2.1 HPr2.out)
    have HU3:=Lib.hid (HU2.out.keeps hkA hubg2)
    have HX3:Hid (Cur wA3 wc.heap.size c c 0):=HX2.out.keepsC hkA hxg
    clear htA hkA HT2 HU2 HX2
    generalize upd _ 2 vv2=f3 at HT3
    generalize upd _ 2 (addL _ (c,c,0) b2)=S3 at HT3 HPr3
    obtain⟨⟨c0,c1,c2,c3,c4,c5⟩,_⟩:=HU3.out
    obtain⟨x0,x1,x2,_,_⟩:=HX3.out
    go_wp2_with fail
    clear c0 c1 c2 c3 c4 c5 x0 x1 x2
    refine(HT3.out.call (i:=3) (by omega) (by omega) (HPr3.out.len hk28).2.2.2.1 (c,c,0) b3).mono ?_
    rintro e wA4 ⟨rfl,vv3,hkA,htA⟩
    have HT4:=Lib.hid htA
    have HPr4:=Lib.hid (HA3.out _ _ HB.out.2.2.2.1 HPr3.out)
    have HU4:=Lib.hid (HU3.out.keeps hkA hubg2)
    have HX4:Hid (Cur wA4 wc.heap.size c c 0):=HX3.out.keepsC hkA hxg
    clear htA hkA HT3 HU3 HX3
    generalize upd _ 3 vv3=f4 at HT4
    generalize upd _ 3 (addL _ (c,c,0) b3)=S4 at HT4 HPr4
    obtain⟨⟨c0,c1,c2,c3,c4,c5⟩,_⟩:=HU4.out
    obtain⟨x0,x1,x2,_,_⟩:=HX4.out
    go_wp2_with fail
    clear c0 c1 c2 c3 c4 c5 x0 x1 x2
    refine(HT4.out.call (i:=4) (by omega) (by omega) (HPr4.out.len hk28).2.2.2.2.1 (c,c,0) b4).mono ?_
    rintro e wA5 ⟨rfl,vv4,hkA,htA⟩
    have HT5:=Lib.hid htA
    have HPr5:=Lib.hid (HA4.out _ _ HB.out.2.2.2.2 HPr4.out)
    have HU5:=Lib.hid (HU4.out.keeps hkA hubg2)
    have HX5:Hid (Cur wA5 wc.heap.size c c 0):=HX4.out.keepsC hkA hxg
    clear htA hkA HT4 HU4 HX4
    generalize upd _ 4 vv4=f5 at HT5
    generalize upd _ 4 (addL _ (c,c,0) b4)=S5 at HT5 HPr5
    generalize wc.heap.size=xb at HX5 hxg hxbg ⊢
    go_upto_region 23 with(fail)
    go_cut [101] (fun cv wx=>∃(B:Bool) (r':List Int),cv = .bool B∧Hid (TSt w wx gs g rb pb f5 S5 u6 sl r')∧Hid (UB6 wx ub b0 b1 b2 b3 b4 b5)∧Hid (Cur wx xb c c 0))
    case first =>
     by_cases hc1:c=173
     ·have e1:(c==173)=true:=by simp[hc1]
      clear hc1
      go_wp2_with fail
      go_meet
      exact⟨_,_,rfl,HT5,HU5,HX5⟩
     ·have e1:(c==173)=false:=by simp[hc1]
      clear hc1
      cases Wd with
      | true =>
       obtain⟨z,hz⟩:∃z,nextV r5 12=z:=⟨_,rfl⟩
       have HZ:=Lib.hid hz
       clear hz
       go_wp2_with fail
       refine(next_at gs r5 12 z _ HT5.out.src (by omega) (by omega) HZ).mono ?_
       rintro e w9 ⟨rfl,hs9,hg9⟩
       have hk9:=next_keeps hg9
       have HT9:=Lib.hid (HT5.out.step hk9 hs9)
       have HU9:=Lib.hid (HU5.out.keeps hk9 hubg)
       have HX9:Hid (Cur w9 xb c c 0):=HX5.out.keepsC hk9 hxbg
       clear hs9 hg9 hk9
       go_wp2_with fail
       go_meet
       exact⟨_,_,rfl,HT9,HU9,HX9⟩
      | false =>
       go_wp2_with fail
       go_meet
       exact⟨_,_,rfl,HT5,HU5,HX5⟩
    case rest =>
     obtain⟨B,r9,rfl,ht9,hu9,hx9⟩:=hcut
     clear HT5 HU5 HX5
     go_upto_if 101 with(fail)
     go_cut [10] (fun v wx=>∃(f6:Nat→Value) (S6:Nat→List Sp),v = .pointer (some ⟨ub,0,none⟩)∧Hid (TSt w wx gs g rb pb f6 S6 u6 sl r9)∧Hid (Prog k 6 S6)∧Hid (UB6 wx ub b0 b1 b2 b3 b4 b5))
     case first =>
      cases B with
      | false =>
       go_wp2_with fail
       go_meet
       exact⟨f5,S5,rfl,ht9,HPr5.out.skip6 hk28,hu9⟩
      | true =>
       obtain⟨x0,x1,x2,_,_⟩:=hx9.out
       go_wp2_with fail
       refine(ht9.out.call (i:=6) (by omega) (by omega) (HPr5.out.len hk28).2.2.2.2.2 (c,c,0) 1).mono ?_
       rintro e wB ⟨rfl,vv6,hkB,htB⟩
       have HTB:=Lib.hid htB
       have HPB:=Lib.hid (HA6.out _ HPr5.out)
       have HUB:=Lib.hid (hu9.out.keeps hkB hubg2)
       clear htB hkB x0 x1 x2
       go_wp2_with fail
       go_meet
       exact⟨_,_,rfl,HTB,HPB,HUB⟩
     case rest =>
      obtain⟨f6,S6,rfl,ht6,hp6,hu6'⟩:=hcut
      clear ht9 hu9 hx9
      obtain⟨⟨_,_,_,_,_,c5⟩,_⟩:=hu6'.out
      have HSA:=Lib.hid (ht6.out.sts.alloc (.cells #[.int .i64 b5] 3))
      have HSL:Hid (sl.length≤1000):=by have:=hls.out.len;unfold Hid;omega
      have HPB:Hid (pb+1≤wc.heap.size):=by
       obtain⟨_,_,e,hc⟩:=ht6.out.pool 0 (by rw[pool_len];omega)
       cases e
       exact World.block_lt_of_cell? wc _ hc
      have HLS:=Lib.hid (hls.out.next hp6.out H5.out)
      clear hls hp6
      go_wp2_with (at_builtin;refine wpList_append_one _ _ rfl rfl (pb+1) u6 sl (by rfl) (by exact HSA.out) _ 1 b5 (by rfl) (by simp[World.cell?_alloc_new]) HSL.out (by have:=HPB.out;simp;omega) ?_;intro v7 w7 ho7 hg7 hv7;have HT7:=Lib.hid (ht6.out.more ho7 hg7 hv7 ((Below.refl _ _).alloc (Nat.le_refl _) _));clear ho7 hg7 hv7)
      go_roundw
      case rel=>exact⟨k+1,_,_,_,_,by omega,by go_num,HT7,HLS⟩
      case measure=>simp[intOf];omega
  ·obtain rfl:k=28:=by omega
   obtain⟨o1,o2,o3,o4⟩:=hd.out.ord
   have hl28:=hls.out.len
   have hsts:wr.ownsRow (pb+1) 3 1 u6 28 (sl.map (.int .i64)):=by
    have:=hd.out.sts
    unfold Ints at this
    rwa[hl28]at this
   obtain⟨sb,sc,hsv,hsb1,hsb2⟩:=hsts.form (by omega)
   subst hsv
   have hglt:=hd.out.box.lt
   have HC:=Lib.hid (hd.out.cold.weak (Q:=fun b=>g<b∧b≠sb) (fun b _ hb=>⟨hb.1,fun e=>hb.2 (by rw[e];rfl)⟩))
   have HRB:=Lib.hid hd.out.res
   have HBL:=Lib.hid hd.out.bel
   have HST:=Lib.hid hsts
   clear hsts
   go_wp2_with fail
   refine(decomps_any gs g f r _ hd.out.src hd.out.box (hd.out.nil 9 (by omega) (by omega)) (hd.out.nil 10 (by omega) (by omega)) o3).mono ?_
   rintro e w5 ⟨rfl,r5,v9,v10,D,E,hdec,hs5,hbx5,hmp9,hin10,hk5,hcap⟩
   have HC5:=Lib.hid ((HC.out.keeps hk5 (fun b _ e hh=>by omega)).setD (hmp9.weak (fun b _ hb=>⟨by omega,by omega⟩)) (hin10.weak (fun b _ hb=>⟨by omega,by omega⟩)))
   have HRB5:=Lib.hid (HRB.out.keeps hk5 (by omega))
   have HBL5:=Lib.hid (HBL.out.trans (hk5.below HBL.out.size (fun b _ e=>by omega)))
   have HST5:=Lib.hid (ownsRow_mono (hk5.owns HST.out (fun b hb e=>by have e2:some sb=some b:=hb;injection e2 with e2;omega)) (Nat.zero_le _))
   have HS5:=Lib.hid hs5
   have HX5:=Lib.hid hbx5
   have HDEC:=Lib.hid hdec
   have HCAP:=Lib.hid hcap
   have hz5:=hk5.size
   have h85:upd (upd f 9 v9) 10 v10 8 = .slice none 0 0:=hd.out.nil 8 (by omega) (by omega)
   have h55:upd (upd f 9 v9) 10 v10 5 = .slice none 0 0:=hd.out.nil 5 (by omega) (by omega)
   have h115:upd (upd f 9 v9) 10 v10 11 = .slice none 0 0:=hd.out.nil 11 (by omega) (by omega)
   have HF9:Hid (upd (upd f 9 v9) 10 v10 9=v9):=rfl
   have H85:=Lib.hid h85
   have H55:=Lib.hid h55
   have H115:=Lib.hid h115
   clear hs5 hbx5 hmp9 hin10 hk5 hcap hdec HC HRB HBL HST hd h85 h55 h115
   generalize upd (upd f 9 v9) 10 v10=f5 at HC5 HX5 H85 H55 H115 HF9
   go_wp2_with fail
   refine(maps_any gs g sb sc f5 sl r5 _ HS5.out HX5.out H85.out H55.out HST5.out (fun i hi=>hls.out.five i hi) ⟨o3,by omega,by omega⟩).mono ?_
   rintro e w6 ⟨rfl,r6,v8,v5,M,St,hmap,hs6,hbx6,hmp8,hsp5,hk6⟩
   have HC6:=Lib.hid ((HC5.out.keeps hk6 (fun b _ e hh=>by omega)).setM (hmp8.weak (fun b _ hb=>⟨by omega,by omega⟩)) (hsp5.weak (fun b _ hb=>⟨by omega,by omega⟩)))
   have HRB6:=Lib.hid (HRB5.out.keeps hk6 (by omega))
   have HBL6:=Lib.hid (HBL5.out.trans (hk6.below HBL5.out.size (fun b _ e=>by omega)))
   have HS6:=Lib.hid hs6
   have HX6:=Lib.hid hbx6
   have HMAP:=Lib.hid hmap
   have hz6:=hk6.size
   have H116:Hid (upd (upd f5 8 v8) 5 v5 11 = .slice none 0 0):=H115.out
   have HG6:Hid (upd (upd f5 8 v8) 5 v5 9=v9):=HF9.out
   have HI6:Hid (SpO w6 (fun b=>b≠gs∧b≠g) (upd (upd f5 8 v8) 5 v5 6) (S 6)):=(HC6.out.sp 6 (by omega)).weak (fun b _ hb=>⟨by omega,by omega⟩)
   clear hs6 hbx6 hmp8 hsp5 hk6 hmap HC5 HRB5 HBL5 HS5 HX5 H85 H55 H115 HF9 HST5
   generalize upd (upd f5 8 v8) 5 v5=f6 at HC6 HX6 H116 HG6 HI6
   go_wp2_with fail
   refine(prototypes_any gs g f6 (S 6) r6 _ HS6.out HX6.out H116.out HI6.out (hls.out.ign.vals (by omega)) o3).mono ?_
   rintro e w7 ⟨rfl,r7,v11,Pr,hpro,hs7,hbx7,hmp11,hk7⟩
   have HC7:=Lib.hid ((HC6.out.keeps hk7 (fun b _ e hh=>by omega)).setR (hmp11.weak (fun b _ hb=>⟨by omega,by omega⟩)))
   have HRB7:=Lib.hid (HRB6.out.keeps hk7 (by omega))
   have HBL7:=Lib.hid (HBL6.out.trans (hk7.below HBL6.out.size (fun b _ e=>by omega)))
   have HS7:=Lib.hid hs7
   have HX7:=Lib.hid hbx7
   have HPRO:=Lib.hid hpro
   have hz7:=hk7.size
   have HG7:Hid (upd f6 11 v11 9=v9):=HG6.out
   clear hs7 hbx7 hmp11 hk7 hpro HC6 HRB6 HBL6 HS6 HX6 H116 HI6 HG6
   generalize upd f6 11 v11=f7 at HC7 HX7 HG7
   obtain⟨z,hz⟩:∃z,nextV r7 2=z:=⟨_,rfl⟩
   have HZ:=Lib.hid hz
   clear hz
   go_wp2_with fail
   refine(next_at gs r7 2 z _ HS7.out (by omega) (by omega) HZ).mono ?_
   rintro e w8 ⟨rfl,hs8,hg8⟩
   have hk8:=next_keeps hg8
   have HC8:=Lib.hid (HC7.out.keeps hk8 (fun b _ e hh=>by omega))
   have HRB8:=Lib.hid (HRB7.out.keeps hk8 (by omega))
   have HBL8:=Lib.hid (HBL7.out.trans (hk8.below HBL7.out.size (fun b _ e=>by omega)))
   have HX8:=Lib.hid (HX7.out.keeps hk8 (by omega))
   have hz8:=hk8.size
   clear hs8 hg8 hk8 HC7 HRB7 HBL7 HX7 HS7
   go_upto_if 120 with(fail)
   go_cut [4] (fun v wx=>∃(f9:Nat→Value) (Ex:List Mp),v = .pointer (some ⟨g,0,none⟩)∧Hid (Ex=[]∨Ex=[(12539,[7,8])])∧Hid (BoxF wx g f9)∧Hid (Cold wx (fun b=>g<b∧b≠sb) f9 (upd S 5 St) Ex M D Pr E)∧Hid (BoxF wx rb (fun _ => .slice none 0 0))∧Hid (Below w.heap.size w wx)∧Hid (f9 9=v9))
   case first =>
    by_cases hz0:z=0
    ·have e1:(z==0)=true:=by simp[hz0]
     clear hz0
     obtain⟨q7,q7f⟩:=HX8.out 7 (by omega)
     have hks:=Keeps.store w8 g 7 (.slice (some ⟨w8.heap.size+1,0,none⟩) 1 1)
     have hsz:(w8.setCell ⟨g,7,none⟩ (.slice (some ⟨w8.heap.size+1,0,none⟩) 1 1)).heap.size=w8.heap.size:=by simp[World.setCell]
     have hb1:=(Below.refl (w8.setCell ⟨g,7,none⟩ (.slice (some ⟨w8.heap.size+1,0,none⟩) 1 1)).heap.size (w8.setCell ⟨g,7,none⟩ (.slice (some ⟨w8.heap.size+1,0,none⟩) 1 1))).alloc (Nat.le_refl _) (.cells #[.int .i64 7,.int .i64 8] 3)
     have hb2:=hb1.alloc hb1.size (.cells #[.int .i64 12539,.slice (some ⟨w8.heap.size,0,none⟩) 2 2] 73)
     have hmx:=ext_new (w8.setCell ⟨g,7,none⟩ (.slice (some ⟨w8.heap.size+1,0,none⟩) 1 1)) w8.heap.size hsz (fun b=>g<b∧b≠sb) ⟨by omega,by omega⟩ ⟨by omega,by omega⟩
     have HXb:=Lib.hid ((HX8.out.sets (Sets.store w8 g 7 (.slice (some ⟨w8.heap.size+1,0,none⟩) 1 1) _ q7)).below hb2)
     have HCb:=Lib.hid (((HC8.out.keeps hks (fun b _ e hh=>by omega)).below hb2).setE hmx)
     have HRb:=Lib.hid ((HRB8.out.keeps hks (by omega)).below hb2)
     have HBb:=Lib.hid ((HBL8.out.trans (hks.below HBL8.out.size (fun b _ e=>by omega))).trans (hb2.mono (by rw[hsz];exact HBL8.out.size)))
     have HGb:Hid (upd f7 7 (.slice (some ⟨w8.heap.size+1,0,none⟩) 1 1) 9=v9):=HG7.out
     have hg8':g<w8.heap.size:=HX8.out.lt
     clear hb1 hb2 hmx hks hsz
     go_wp2_with fail
     go_meet
     exact⟨_,_,rfl,.inr rfl,HXb,HCb,HRb,HBb,HGb⟩
    ·have e1:(z==0)=false:=by simp[hz0]
     clear hz0
     go_wp2_with fail
     go_meet
     exact⟨f7,[],rfl,.inl rfl,HX8,HC8,HRB8,HBL8,HG7⟩
   case rest =>
    obtain⟨f9,Ex,rfl,hex,hx9,hc9,hr9,hb9,hg9⟩:=hcut
    clear HX8 HC8 HRB8 HBL8 HG7
    obtain⟨⟨a0,a1,a2,a3,a4,a5,a6,a7,a8,a9,a10,a11⟩,hx⟩:∃x,xOf f9=x:=⟨_,rfl⟩
    have htv:TabV wc ⟨a0,a1,a2,a3,a4,a5,a6,a7,a8,a9,a10,a11⟩ (tbOf (upd S 5 St) Ex M D Pr E):=by rw[←hx];exact hc9.out.tab
    obtain⟨p0,n0,q0,hsl0⟩:Slc a0:=htv.cat.slc
    subst hsl0
    obtain⟨p1,n1,q1,hsl1⟩:Slc a1:=htv.cls.slc
    subst hsl1
    obtain⟨p2,n2,q2,hsl2⟩:Slc a2:=htv.joi.slc
    subst hsl2
    obtain⟨p3,n3,q3,hsl3⟩:Slc a3:=htv.bid.slc
    subst hsl3
    obtain⟨p4,n4,q4,hsl4⟩:Slc a4:=htv.scr.slc
    subst hsl4
    obtain⟨p5,n5,q5,hsl5⟩:Slc a5:=htv.sta.slc
    subst hsl5
    obtain⟨p6,n6,q6,hsl6⟩:Slc a6:=htv.ign.slc
    subst hsl6
    obtain⟨p7,n7,q7,hsl7⟩:Slc a7:=htv.ext.slc
    subst hsl7
    obtain⟨p8,n8,q8,hsl8⟩:Slc a8:=htv.map.slc
    subst hsl8
    obtain⟨p9,n9,q9,hsl9⟩:Slc a9:=htv.dec.slc
    subst hsl9
    obtain⟨p10,n10,q10,hsl10⟩:Slc a10:=htv.exc.slc
    subst hsl10
    obtain⟨p11,n11,q11,hsl11⟩:Slc a11:=htv.pro.slc
    subst hsl11
    have HXX:Hid (xOf f9=⟨.slice p0 n0 q0,.slice p1 n1 q1,.slice p2 n2 q2,.slice p3 n3 q3,.slice p4 n4 q4,.slice p5 n5 q5,.slice p6 n6 q6,.slice p7 n7 q7,.slice p8 n8 q8,.slice p9 n9 q9,.slice p10 n10 q10,.slice p11 n11 q11⟩):=hx
    have HMD:=Lib.hid (made_of hls.out HMAP.out HDEC.out HPRO.out hex.out)
    have HA9:Hid (n9≤q9):=by
     have e:f9 9 = .slice p9 n9 q9:=congrArg TV.a9 hx
     exact HCAP.out p9 n9 q9 (hg9.out.symm.trans e)
    have hbt:BoxT wc g ⟨.slice p0 n0 q0,.slice p1 n1 q1,.slice p2 n2 q2,.slice p3 n3 q3,.slice p4 n4 q4,.slice p5 n5 q5,.slice p6 n6 q6,.slice p7 n7 q7,.slice p8 n8 q8,.slice p9 n9 q9,.slice p10 n10 q10,.slice p11 n11 q11⟩:=by rw[←hx];exact hx9.out.box
    obtain⟨⟨k0,k1,k2,k3,k4,k5⟩,⟨k6,k7,k8,k9,k10,k11⟩⟩:=hbt.load
    simp only at k0 k1 k2 k3 k4 k5 k6 k7 k8 k9 k10 k11
    obtain⟨s0,t0⟩:=hr9.out 0 (by omega)
    obtain⟨s1,t1⟩:=hr9.out 1 (by omega)
    obtain⟨s2,t2⟩:=hr9.out 2 (by omega)
    obtain⟨s3,t3⟩:=hr9.out 3 (by omega)
    obtain⟨s4,t4⟩:=hr9.out 4 (by omega)
    obtain⟨s5,t5⟩:=hr9.out 5 (by omega)
    obtain⟨s6,t6⟩:=hr9.out 6 (by omega)
    obtain⟨s7,t7⟩:=hr9.out 7 (by omega)
    obtain⟨s8,t8⟩:=hr9.out 8 (by omega)
    obtain⟨s9,t9⟩:=hr9.out 9 (by omega)
    obtain⟨s10,t10⟩:=hr9.out 10 (by omega)
    obtain⟨s11,t11⟩:=hr9.out 11 (by omega)
    have HRBX:=hr9
    clear hr9 hx hbt hex htv hx9 hg9 HCAP
    go_wp2
    obtain⟨hbF,hkF⟩:=store12 wc rb (.slice p0 n0 q0) (.slice p1 n1 q1) (.slice p2 n2 q2) (.slice p3 n3 q3) (.slice p4 n4 q4) (.slice p5 n5 q5) (.slice p6 n6 q6) (.slice p7 n7 q7) (.slice p8 n8 q8) (.slice p9 n9 q9) (.slice p10 n10 q10) (.slice p11 n11 q11) HRBX.out
    generalize (World.setCell (World.setCell (World.setCell (World.setCell (World.setCell (World.setCell (World.setCell (World.setCell (World.setCell (World.setCell (World.setCell (World.setCell wc ⟨rb,0,none⟩ (.slice p0 n0 q0)) ⟨rb,1,none⟩ (.slice p1 n1 q1)) ⟨rb,2,none⟩ (.slice p2 n2 q2)) ⟨rb,3,none⟩ (.slice p3 n3 q3)) ⟨rb,4,none⟩ (.slice p4 n4 q4)) ⟨rb,5,none⟩ (.slice p5 n5 q5)) ⟨rb,6,none⟩ (.slice p6 n6 q6)) ⟨rb,7,none⟩ (.slice p7 n7 q7)) ⟨rb,8,none⟩ (.slice p8 n8 q8)) ⟨rb,9,none⟩ (.slice p9 n9 q9)) ⟨rb,10,none⟩ (.slice p10 n10 q10)) ⟨rb,11,none⟩ (.slice p11 n11 q11))=WF at hbF hkF ⊢
    obtain⟨⟨Q0,Q1,Q2,Q3,Q4,Q5⟩,⟨Q6,Q7,Q8,Q9,Q10,Q11⟩⟩:=hbF.load
    have htF:=(hc9.out.keeps hkF (fun b _ e hh=>by omega)).tab
    rw[HXX.out]at htF
    have hbF2:=hb9.out.trans (hkF.below hb9.out.size (fun b _ e=>by omega))
    simp only at Q0 Q1 Q2 Q3 Q4 Q5 Q6 Q7 Q8 Q9 Q10 Q11
    refine bodyPost_ret (v := .agg #[.slice p0 n0 q0,.slice p1 n1 q1,.slice p2 n2 q2,.slice p3 n3 q3,.slice p4 n4 q4,.slice p5 n5 q5,.slice p6 n6 q6,.slice p7 n7 q7,.slice p8 n8 q8,.slice p9 n9 q9,.slice p10 n10 q10,.slice p11 n11 q11]) (by simp[results,Tryz.results11,go_sem,Q0,Q1,Q2,Q3,Q4,Q5,Q6,Q7,Q8,Q9,Q10,Q11]) rfl ?_
    exact⟨⟨.slice p0 n0 q0,.slice p1 n1 q1,.slice p2 n2 q2,.slice p3 n3 q3,.slice p4 n4 q4,.slice p5 n5 q5,.slice p6 n6 q6,.slice p7 n7 q7,.slice p8 n8 q8,.slice p9 n9 q9,.slice p10 n10 q10,.slice p11 n11 q11⟩,_,rfl,htF,HMD.out,fun p n c e=>by cases e;exact HA9.out,hbF2⟩
end Go.Proofs.YtblcoicaeeiojaaGreatDoor
