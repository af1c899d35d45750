/- Tables under construction: a box of twelve cells, lists whos -/
import Derived.Test.YtblcoicaeeiojaaGreatDoorSSiTblSpec
import Derived.Test.YtblcoicaeeiojaaGreatDoorSSiPmTabMem
import Derived.Test.YtblcoicaeeiojaaGreatDoorSSiPmBidFact
import Derived.Test.YtblcoicaeeiojaaGreatDoorSSiPmPunSrtA
import Derived.Deep.RegionLaw
set_option linter.unusedSimpArgs false
set_option linter.unusedVariables false
namespace Go.Proofs.YtblcoicaeeiojaaGreatDoor
open Go.RowKit
structure Keeps (w w':World) (R:Nat→Prop):Prop where
 os:w'.os=w.os
 tape:w'.tape=w.tape
 output:w'.output=w.output
 size:w.heap.size≤w'.heap.size
 block:∀k,k<w.heap.size→¬R k→w'.heap[k]? = w.heap[k]?
theorem Keeps.refl (w:World) (R:Nat→Prop):Keeps w w R:=⟨rfl,rfl,rfl,Nat.le_refl _,fun _ _ _=>rfl⟩
theorem Keeps.of_grown {w w':World} {row:Option Nat} (h:w.grownBy w' row):Keeps w w' (fun k=>row=some k):=⟨h.os,h.tape,h.output,h.size,fun k hk hr=>h.block k hk (fun e=>hr e.symm)⟩
theorem Keeps.of_below {w w':World} {B:Nat} (h:Below B w w'):Keeps w w' (fun k=>B≤k):=⟨h.os,h.tape,h.output,h.size,fun k hk hr=>h.block k (by omega)⟩
theorem Keeps.weak {w w':World} {R Q:Nat→Prop} (h:Keeps w w' R) (hq:∀k,k<w.heap.size→R k→Q k):Keeps w w' Q:=⟨h.os,h.tape,h.output,h.size,fun k hk hr=>h.block k hk (fun e=>hr (hq k hk e))⟩
theorem Keeps.trans {w w1 w2:World} {R Q S:Nat→Prop} (h:Keeps w w1 R) (k:Keeps w1 w2 Q) (h1:∀b,b<w.heap.size→R b→S b) (h2:∀b,b<w.heap.size→Q b→S b):Keeps w w2 S :=
 ⟨k.os.trans h.os,k.tape.trans h.tape,k.output.trans h.output,Nat.le_trans h.size k.size,fun b hb hs=>(k.block b (Nat.lt_of_lt_of_le hb h.size) (fun e=>hs (h2 b hb e))).trans (h.block b hb (fun e=>hs (h1 b hb e)))⟩
theorem Keeps.below {B:Nat} {w w':World} {R:Nat→Prop} (h:Keeps w w' R) (hB:B≤w.heap.size) (hr:∀k,k<w.heap.size→R k→B≤k):Below B w w' :=
 ⟨h.os,h.tape,h.output,h.size,fun k hk=>h.block k (by omega) (fun e=>by have:=hr k (by omega) e;omega)⟩
theorem Keeps.cell {w w':World} {R:Nat→Prop} (h:Keeps w w' R) {a:Addr} {v:Value} (hc:w.cell? a=some v) (hr:¬R a.block):w'.cell? a=some v :=
 (World.cell?_of_block (h.block a.block (World.block_lt_of_cell? w a hc) hr)).trans hc
theorem Keeps.alloc (w:World) (o:Obj):Keeps w (w.alloc o) (fun _=>False):=⟨rfl,rfl,rfl,by simp,fun k hk _=>Below.heap_alloc _ _ _ hk⟩
theorem Keeps.store (w:World) (g o:Nat) (v:Value):Keeps w (w.setCell ⟨g,o,none⟩ v) (fun k=>k=g):=⟨rfl,rfl,rfl,by simp[World.setCell],fun k hk hr=>Below.heap_setCell _ _ _ _ hr⟩
theorem Keeps.owns {w w':World} {R:Nat→Prop} {B:Nat} {e:TypeId} {z:Nat} {v:Value} {n:Nat} {xs:List Value} (h:Keeps w w' R) (ho:w.ownsRow B e z v n xs) (hr:∀k,v.ownBlock=some k→¬R k):w'.ownsRow B e z v n xs:=by
 obtain⟨h1,h2⟩:=ho
 refine⟨h1,?_⟩
 rcases h2 with h2|⟨g,cap,cur,rfl,hB,hg,r⟩
 ·exact .inl h2
 ·refine .inr ⟨g,cap,cur,rfl,hB,?_,r⟩
  have hlt:g<w.heap.size:=by
   rcases Nat.lt_or_ge g w.heap.size with hlt|hge
   ·exact hlt
   ·rw[Array.getElem?_eq_none hge]at hg;cases hg
  rw[h.block g hlt (hr g rfl),hg]
theorem Src.lt {w:World} {g:Nat} {r:List Int} (h:Src w g r):g<w.heap.size:=by
 obtain⟨_,_,_,_,_,_,_,h4,_⟩:=h
 exact World.block_lt_of_cell? w _ h4
theorem Src.keeps {w w':World} {R:Nat→Prop} {g:Nat} {r:List Int} (h:Src w g r) (hg:Keeps w w' R) (hr:∀b,b≤g→¬R b):Src w' g r:=by
 obtain⟨zs,i,p,cap,h1,h2,h3,h4,h5,h6,h7,h8⟩:=h
 have hlt:=World.block_lt_of_cell? w _ h4
 refine⟨zs,i,p,cap,h1,h2,h3,hg.cell h4 (hr g (Nat.le_refl _)),hg.cell h5 (hr g (Nat.le_refl _)),?_,?_,h8⟩
 ·exact(World.frozen?_of_block (hg.block g hlt (hr g (Nat.le_refl _)))).trans h6
 ·intro k hk
  obtain⟨b,off,e,hc⟩:=h7 k hk
  have hb:=h8 (by intro e;rw[e]at hk;simp at hk) b off e
  exact⟨b,off,e,hg.cell hc (hr b (by omega))⟩
def Lies (w:World) (P:Nat→Prop) (v:Value):Prop:=∀b off n c,v = .slice (some ⟨b,off,none⟩) n c→P b∧b<w.heap.size
theorem Lies.nil (w:World) (P:Nat→Prop) (n c:Nat):Lies w P (.slice none n c):=by intro b off n c e;cases e
theorem Lies.size {w w':World} {P:Nat→Prop} {v:Value} (h:Lies w P v) (hs:w.heap.size≤w'.heap.size):Lies w' P v:=fun b off n c e=>⟨(h b off n c e).1,Nat.lt_of_lt_of_le (h b off n c e).2 hs⟩
theorem Lies.weak {w:World} {P Q:Nat→Prop} {v:Value} (h:Lies w P v) (hq:∀b,b<w.heap.size→P b→Q b):Lies w Q v:=fun b off n c e=>⟨hq b (h b off n c e).2 (h b off n c e).1,(h b off n c e).2⟩
def MpO (w:World) (P:Nat→Prop) (v:Value) (l:List Mp):Prop :=
 ∃p c,v = .slice p l.length c∧Lies w P v∧l.length≤17592186043904∧∀k,k<l.length→∃b off u,p=some ⟨b,off,none⟩∧w.cell? ⟨b,off+k*2,none⟩=some (.int .i64 (l.getD k mp0).1)∧w.cell? ⟨b,off+k*2+1,none⟩=some u∧InV w u (l.getD k mp0).2∧Lies w P u
def InO (w:World) (P:Nat→Prop) (v:Value) (l:List Int):Prop:=InV w v l∧Lies w P v
def SpO (w:World) (P:Nat→Prop) (v:Value) (l:List Sp):Prop:=SpV w v l∧Lies w P v
theorem InV.keeps {w w':World} {P R:Nat→Prop} {v:Value} {l:List Int} (h:InV w v l) (hl:Lies w P v) (hg:Keeps w w' R) (hr:∀k,k<w.heap.size→R k→¬P k):InV w' v l:=by
 obtain⟨p,c,rfl,h1,h2⟩:=h
 refine⟨p,c,rfl,fun k hk=>?_,h2⟩
 obtain⟨b,off,rfl,hc⟩:=h1 k hk
 have hp:=hl b off _ _ rfl
 exact⟨b,off,rfl,hg.cell hc fun e=>hr b hp.2 e hp.1⟩
theorem InO.keeps {w w':World} {P R:Nat→Prop} {v:Value} {l:List Int} (h:InO w P v l) (hg:Keeps w w' R) (hr:∀k,k<w.heap.size→R k→¬P k):InO w' P v l:=⟨h.1.keeps h.2 hg hr,h.2.size hg.size⟩
theorem SpO.keeps {w w':World} {P R:Nat→Prop} {v:Value} {l:List Sp} (h:SpO w P v l) (hg:Keeps w w' R) (hr:∀k,k<w.heap.size→R k→¬P k):SpO w' P v l:=by
 obtain⟨⟨p,c,rfl,h1,h2⟩,hl⟩:=h
 refine⟨⟨p,c,rfl,fun k hk=>?_,h2⟩,hl.size hg.size⟩
 obtain⟨b,off,rfl,c1,c2,c3⟩:=h1 k hk
 have hp:=hl b off _ _ rfl
 have hn:¬R b:=fun e=>hr b hp.2 e hp.1
 exact⟨b,off,rfl,hg.cell c1 hn,hg.cell c2 hn,hg.cell c3 hn⟩
theorem MpO.keeps {w w':World} {P R:Nat→Prop} {v:Value} {l:List Mp} (h:MpO w P v l) (hg:Keeps w w' R) (hr:∀k,k<w.heap.size→R k→¬P k):MpO w' P v l:=by
 obtain⟨p,c,rfl,hl,h2,h3⟩:=h
 refine⟨p,c,rfl,hl.size hg.size,h2,fun k hk=>?_⟩
 obtain⟨b,off,u,rfl,c1,c2,c3,c4⟩:=h3 k hk
 have hp:=hl b off _ _ rfl
 have hn:¬R b:=fun e=>hr b hp.2 e hp.1
 exact⟨b,off,u,rfl,hg.cell c1 hn,hg.cell c2 hn,c3.keeps c4 hg hr,c4.size hg.size⟩
theorem InO.weak {w:World} {P Q:Nat→Prop} {v:Value} {l:List Int} (h:InO w P v l) (hq:∀b,b<w.heap.size→P b→Q b):InO w Q v l:=⟨h.1,h.2.weak hq⟩
theorem SpO.weak {w:World} {P Q:Nat→Prop} {v:Value} {l:List Sp} (h:SpO w P v l) (hq:∀b,b<w.heap.size→P b→Q b):SpO w Q v l:=⟨h.1,h.2.weak hq⟩
theorem MpO.weak {w:World} {P Q:Nat→Prop} {v:Value} {l:List Mp} (h:MpO w P v l) (hq:∀b,b<w.heap.size→P b→Q b):MpO w Q v l:=by
 obtain⟨p,c,rfl,hl,h2,h3⟩:=h
 refine⟨p,c,rfl,hl.weak hq,h2,fun k hk=>?_⟩
 obtain⟨b,off,u,e,c1,c2,c3,c4⟩:=h3 k hk
 exact⟨b,off,u,e,c1,c2,c3,c4.weak hq⟩
theorem MpO.mpv {w:World} {P:Nat→Prop} {v:Value} {l:List Mp} (h:MpO w P v l):MpV w v l:=by
 obtain⟨p,c,rfl,hl,h2,h3⟩:=h
 refine⟨p,c,rfl,fun k hk=>?_,h2⟩
 obtain⟨b,off,u,e,c1,c2,c3,c4⟩:=h3 k hk
 exact⟨b,off,u,e,c1,c2,c3⟩
theorem MpO.nil (w:World) (P:Nat→Prop):MpO w P (.slice none 0 0) []:=⟨none,0,rfl,Lies.nil _ _ _ _,by simp,fun k hk=>absurd hk (Nat.not_lt_zero _)⟩
theorem InO.nil (w:World) (P:Nat→Prop):InO w P (.slice none 0 0) []:=⟨noI w,Lies.nil _ _ _ _⟩
theorem SpO.nil (w:World) (P:Nat→Prop):SpO w P (.slice none 0 0) []:=⟨noS w,Lies.nil _ _ _ _⟩
def BoxF (w:World) (g:Nat) (f:Nat→Value):Prop:=∀i,i<12→w.cell? ⟨g,i,none⟩=some (f i)∧w.frozen? ⟨g,i,none⟩=false
structure Cold (w:World) (P:Nat→Prop) (f:Nat→Value) (S:Nat→List Sp) (E M D R:List Mp) (X:List Int):Prop where
 sp:∀i,i<7→SpO w P (f i) (S i)
 ext:MpO w P (f 7) E
 map:MpO w P (f 8) M
 dec:MpO w P (f 9) D
 exc:InO w P (f 10) X
 pro:MpO w P (f 11) R
section
variable {w w':World} {P Q R:Nat→Prop} {f:Nat→Value} {S:Nat→List Sp} {E M D Z:List Mp} {X:List Int}
theorem Cold.keeps (h:Cold w P f S E M D Z X) (hg:Keeps w w' R) (hr:∀k,k<w.heap.size→R k→¬P k):Cold w' P f S E M D Z X :=
 ⟨fun i hi=>(h.sp i hi).keeps hg hr,h.ext.keeps hg hr,h.map.keeps hg hr,h.dec.keeps hg hr,h.exc.keeps hg hr,h.pro.keeps hg hr⟩
theorem Cold.weak (h:Cold w P f S E M D Z X) (hq:∀b,b<w.heap.size→P b→Q b):Cold w Q f S E M D Z X :=
 ⟨fun i hi=>(h.sp i hi).weak hq,h.ext.weak hq,h.map.weak hq,h.dec.weak hq,h.exc.weak hq,h.pro.weak hq⟩
theorem Cold.below (h:Cold w P f S E M D Z X) (hb:Below w.heap.size w w'):Cold w' P f S E M D Z X :=
 h.keeps (Keeps.of_below hb) (fun k hk e=>by omega)
abbrev tbOf (S:Nat→List Sp) (E M D R:List Mp) (X:List Int):Tb:=⟨S 0,S 1,S 2,S 3,S 4,S 5,S 6,E,M,D,X,R⟩
abbrev xOf (f:Nat→Value):TV:=⟨f 0,f 1,f 2,f 3,f 4,f 5,f 6,f 7,f 8,f 9,f 10,f 11⟩
theorem Cold.tab (h:Cold w P f S E M D Z X):TabV w (xOf f) (tbOf S E M D Z X) :=
 ⟨(h.sp 0 (by omega)).1,(h.sp 1 (by omega)).1,(h.sp 2 (by omega)).1,(h.sp 3 (by omega)).1,(h.sp 4 (by omega)).1,(h.sp 5 (by omega)).1,(h.sp 6 (by omega)).1,h.ext.mpv,h.map.mpv,h.dec.mpv,h.exc.1,h.pro.mpv⟩
end
theorem BoxF.box {w:World} {g:Nat} {f:Nat→Value} (h:BoxF w g f):BoxT w g (xOf f) :=
 ⟨⟨(h 0 (by omega)).1,(h 1 (by omega)).1,(h 2 (by omega)).1,(h 3 (by omega)).1,(h 4 (by omega)).1,(h 5 (by omega)).1⟩,⟨(h 6 (by omega)).1,(h 7 (by omega)).1,(h 8 (by omega)).1,(h 9 (by omega)).1,(h 10 (by omega)).1,(h 11 (by omega)).1⟩⟩
theorem BoxF.lt {w:World} {g:Nat} {f:Nat→Value} (h:BoxF w g f):g<w.heap.size:=World.block_lt_of_cell? w _ (h 0 (by omega)).1
theorem BoxF.keeps {w w':World} {R:Nat→Prop} {g:Nat} {f:Nat→Value} (h:BoxF w g f) (hg:Keeps w w' R) (hr:¬R g):BoxF w' g f:=by
 intro i hi
 obtain⟨h1,h2⟩:=h i hi
 exact⟨hg.cell h1 hr,(World.frozen?_of_block (a:=⟨g,i,none⟩) (hg.block g h.lt hr)).trans h2⟩
theorem BoxF.below {w w':World} {g:Nat} {f:Nat→Value} (h:BoxF w g f) (hb:Below w.heap.size w w'):BoxF w' g f:=h.keeps (Keeps.of_below hb) (Nat.not_le_of_lt h.lt)
def upd {A:Type} (f:Nat→A) (i:Nat) (v:A):Nat→A:=fun j=>if j=i then v else f j
theorem upd_same {A:Type} (f:Nat→A) (i:Nat) (v:A):upd f i v i=v:=by simp[upd]
theorem upd_other {A:Type} (f:Nat→A) {i j:Nat} (v:A) (h:j≠i):upd f i v j=f j:=by simp[upd,h]
structure Sets (w w':World) (g i:Nat) (v:Value):Prop where
 cell:w'.cell? ⟨g,i,none⟩=some v
 keep:Keeps w w' (fun k=>k=g)
 froz:∀j,w'.frozen? ⟨g,j,none⟩=w.frozen? ⟨g,j,none⟩
 rest:∀j,j≠i→w'.cell? ⟨g,j,none⟩=w.cell? ⟨g,j,none⟩
theorem BoxF.sets {w w':World} {g i:Nat} {f:Nat→Value} {v:Value} (h:BoxF w g f) (hs:Sets w w' g i v):BoxF w' g (upd f i v):=by
 intro j hj
 obtain⟨h1,h2⟩:=h j hj
 refine⟨?_,(hs.froz j).trans h2⟩
 by_cases e:j=i
 ·subst e;rw[upd_same];exact hs.cell
 ·rw[upd_other _ _ e,hs.rest j e];exact h1
theorem Sets.store (w:World) (g i:Nat) (v u:Value) (hc:w.cell? ⟨g,i,none⟩=some u):Sets w (w.setCell ⟨g,i,none⟩ v) g i v :=
 ⟨World.cell?_setCell_same _ _ _ hc,Keeps.store w g i v,fun j=>World.frozen?_setCell _ _ _ _,fun j hj=>World.cell?_setCell_other _ _ _ _ (by intro e;cases e;exact hj rfl)⟩
theorem Sets.same (w:World) (g i:Nat) (v:Value) (hc:w.cell? ⟨g,i,none⟩=some v) {w':World} (hb:Below w.heap.size w w'):Sets w w' g i v:=by
 have hlt:=World.block_lt_of_cell? w _ hc
 refine⟨(hb.cell (p:=⟨g,i,none⟩) hlt).trans hc,(Keeps.of_below hb).weak (fun k hk e=>by omega),fun j=>hb.frozen (p:=⟨g,j,none⟩) hlt,fun j _=>hb.cell (p:=⟨g,j,none⟩) hlt⟩
theorem Sets.behind {w w1 w':World} {g i:Nat} {v:Value} {R:Nat→Prop} (hs:Sets w1 w' g i v) (hg:Keeps w w1 R) (hr:∀k,k<w.heap.size→¬R k) (hlt:g<w.heap.size):Sets w w' g i v:=by
 have hblk:=hg.block g hlt (hr g hlt)
 refine⟨hs.cell,hg.trans hs.keep (fun b hb e=>absurd e (hr b hb)) (fun b hb e=>e),fun j=>(hs.froz j).trans (World.frozen?_of_block (a:=⟨g,j,none⟩) hblk),fun j hj=>(hs.rest j hj).trans (World.cell?_of_block (a:=⟨g,j,none⟩) hblk)⟩
theorem Cold.setS {w w' : World} {P : Nat → Prop} {g i : Nat} {f : Nat → Value} {S : Nat → List Sp} {E M D R : List Mp} {X : List Int} {v : Value} {L : List Sp} (h : Cold w P f S E M D R X) (hi : i < 7)
  (hg:Keeps w w' (fun k=>k=g)) (hP:¬P g) (hv:SpO w' P v L):Cold w' P (upd f i v) (upd S i L) E M D R X:=by
 have h':=h.keeps hg (fun k _ e=>by subst e;exact hP)
 refine⟨fun j hj=>?_,?_,?_,?_,?_,?_⟩
 ·by_cases e:j=i
  ·subst e;rw[upd_same,upd_same];exact hv
  ·rw[upd_other _ _ e,upd_other _ _ e];exact h'.sp j hj
 ·rw[upd_other _ _ (by omega)];exact h'.ext
 ·rw[upd_other _ _ (by omega)];exact h'.map
 ·rw[upd_other _ _ (by omega)];exact h'.dec
 ·rw[upd_other _ _ (by omega)];exact h'.exc
 ·rw[upd_other _ _ (by omega)];exact h'.pro
end Go.Proofs.YtblcoicaeeiojaaGreatDoor
namespace Go.Proofs.YtblcoicaeeiojaaGreatDoor
open Go.RowKit
structure Six (u:Nat→Int):Prop where
 cat:0≤u 0∧u 0≤8
 cls:0≤u 1∧u 1≤254
 joi:0≤u 2∧u 2≤5
 bid:0≤u 3∧u 3≤11
 scr:0≤u 4∧u 4≤60
 sta:u 5=0∨u 5=1∨u 5=2∨u 5=4
def sixF (a b c d e f:Int):Nat→Int:=fun i=>[a,b,c,d,e,f].getD i 0
abbrev sixV (u:Nat→Int):Value := .agg #[.int .i64 (u 0),.int .i64 (u 1),.int .i64 (u 2),.int .i64 (u 3),.int .i64 (u 4),.int .i64 (u 5)]
def UsualPost (w:World) (e:Ending) (w':World):Prop:=∃u,Six u∧e = .returned (sixV u)∧Below w.heap.size w w'
theorem six_lit (a b c d e f : Int) (w w' : World) (hb : Below w.heap.size w w') (h : 0 ≤ a ∧ a ≤ 8 ∧ 0 ≤ b ∧ b ≤ 254 ∧ 0 ≤ c ∧ c ≤ 5 ∧ 0 ≤ d ∧ d ≤ 11 ∧ 0 ≤ e ∧ e ≤ 60 ∧ (f = 0 ∨ f = 1 ∨ f = 2 ∨ f = 4)) :
  UsualPost w (.returned (.agg #[.int .i64 a,.int .i64 b,.int .i64 c,.int .i64 d,.int .i64 e,.int .i64 f])) w':=by
 refine⟨sixF a b c d e f,⟨?_,?_,?_,?_,?_,?_⟩,rfl,hb⟩<;>simp only[sixF,List.getD_cons_zero,List.getD_cons_succ]<;>omega
theorem next_at (g : Nat) (r : List Int) (n v : Int) (w : World) (hs : Src w g r) (h0 : 1 ≤ n) (h1 : n ≤ 1073741824) (hv : Hid (nextV r n = v)) :
  Calls Tryz.prog 30 #[.pointer (some ⟨g,0,none⟩),.int .i64 n] w (NextPost g v r.tail w):=hv.out▸next_any g r n w hs h0 h1
set_option maxHeartbeats 4000000 in
theorem usual_any (c:Int) (w:World) (hc:c∈poolL):Calls Tryz.prog 32 #[.int .i64 c] w (UsualPost w):=by
 simp only[poolL,List.mem_cons,List.not_mem_nil,or_false]at hc
 rcases hc with rfl|rfl|rfl|rfl|rfl|rfl|rfl|rfl|rfl|rfl|rfl|rfl|rfl|rfl|rfl|rfl|rfl|rfl|rfl|rfl|rfl|rfl|rfl|rfl|rfl|rfl|rfl|rfl
 all_goals
  go_enter Tryz.func32,Tryz.ntmps32
  go_wp2
  refine bodyPost_ret (results_cell_row rfl _ _ w.heap.size _ _ _ _ rfl (heap_alloc_new _ _) Tryz.underlying62 rfl (by kernel_rfl)) rfl ?_
  exact six_lit _ _ _ _ _ _ _ _ (by first|exact((Below.refl _ _).alloc (Nat.le_refl _) _)|exact((Below.refl _ _).alloc (Nat.le_refl _) _).setCell (Nat.le_refl _) _|trace_state) (by omega)
def ChoosePost (g:Nat) (zs:List Int) (w:World) (e:Ending) (w':World):Prop :=
 ∃v r,e = .returned (.int .i64 v)∧v∈zs∧Src w' g r∧w.grownBy w' (some g)
theorem getD_mem_int (l:List Int) (k:Nat) (h:k<l.length):l.getD k 0∈l:=by simp[h]
set_option maxHeartbeats 2000000 in
theorem choose_any (g : Nat) (r : List Int) (b : Nat) (off n cap : Nat) (zs : List Int) (w : World) (hs : Src w g r) (hin : IntsIn w (some ⟨b, off, none⟩) zs) (hn : zs.length = n) (h0 : 0 < n) (h1 : n ≤ 1000) (hb : b ≠ g) :
  Calls Tryz.prog 33 #[.pointer (some ⟨g,0,none⟩),.slice (some ⟨b,off,none⟩) n cap] w (ChoosePost g zs w):=by
 obtain⟨x,hx⟩:∃x,nextV r 3=x:=⟨_,rfl⟩
 obtain⟨b0,b1⟩:=nextV_bd r 3 (by omega)
 rw[hx]at b0 b1
 have HX:=Lib.hid hx
 have HS:=Lib.hid hs
 have HI:=Lib.hid hin
 have HN:=Lib.hid hn
 clear hx hs hin hn
 by_cases hz:0<x
 ·go_enter Tryz.func33,Tryz.ntmps33
  go_wp2_with fail
  refine(next_at g r 3 x _ HS.out (by omega) (by omega) HX).mono ?_
  rintro e w1 ⟨rfl,hs1,hg1⟩
  obtain⟨b',off',e',hc⟩:=(HI.out.grown hg1 (by intro b' off' e;cases e;exact hb)) 0 (by rw[HN.out];exact h0)
  cases e'
  have HM:=Lib.hid (getD_mem_int zs 0 (by rw[HN.out];exact h0))
  obtain⟨y,hy⟩:∃y,zs.getD 0 0=y:=⟨_,rfl⟩
  rw[hy]at hc HM
  simp only[Nat.add_zero]at hc
  have HS1:=Lib.hid hs1
  have HG1:=Lib.hid hg1
  clear hs1 hg1 hy
  go_wp2
  go_ret
  exact⟨y,_,rfl,HM.out,HS1.out,HG1.out⟩
 ·obtain⟨q,hq⟩:∃q:Nat,nextV r.tail n=q:=⟨(nextV r.tail n).toNat,by have:=nextV_bd r.tail n (by omega);omega⟩
  have hqn:q<n:=by have:=nextV_bd r.tail n (by omega);omega
  have HQ:=Lib.hid hq
  clear hq
  go_enter Tryz.func33,Tryz.ntmps33
  go_wp2_with fail
  refine(next_at g r 3 x _ HS.out (by omega) (by omega) HX).mono ?_
  rintro e w1 ⟨rfl,hs1,hg1⟩
  have HI1:=Lib.hid (HI.out.grown hg1 (by intro b' off' e;cases e;exact hb))
  have HS1:=Lib.hid hs1
  have HG1:=Lib.hid hg1
  clear hs1 hg1
  go_wp2_with fail
  refine(next_at g r.tail n q _ HS1.out (by omega) (by omega) HQ).mono ?_
  rintro e w2 ⟨rfl,hs2,hg2⟩
  obtain⟨b',off',e',hc⟩:=(HI1.out.grown hg2 (by intro b' off' e;cases e;exact hb)) q (by rw[HN.out];exact hqn)
  cases e'
  have HM:=Lib.hid (getD_mem_int zs q (by rw[HN.out];exact hqn))
  obtain⟨y,hy⟩:∃y,zs.getD q 0=y:=⟨_,rfl⟩
  rw[hy]at hc HM
  have HS2:=Lib.hid hs2
  have HG2:=Lib.hid (grownBy_trans HG1.out hg2)
  clear hs2 hg2 hy
  go_wp2
  go_ret
  exact⟨y,_,rfl,HM.out,HS2.out,HG2.out⟩
theorem Tryz.infoMap:(Tryz.prog.info? 73).map (fun i=>(i.zero,i.size,i.bytes))=some (some (.agg #[.int .i64 0,.slice none 0 0]),2,32):=by kernel_rfl
abbrev Mq:=Mp × Value
def cellsQ:List Mq→List Value
 | []=>[]
 | q::r => .int .i64 q.1.1::q.2::cellsQ r
theorem cellsQ_append (a b:List Mq):cellsQ (a++b)=cellsQ a++cellsQ b:=by
 induction a with
 | nil=>rfl
 | cons s r ih=>simp[cellsQ,ih]
theorem cellsQ_at (l:List Mq) (k:Nat) (q:Mq) (h:l[k]? = some q):(cellsQ l)[k*2]? = some (.int .i64 q.1.1)∧(cellsQ l)[k*2+1]? = some q.2:=by
 induction l generalizing k with
 | nil=>simp at h
 | cons s r ih =>
  cases k with
  | zero=>simp at h;subst h;simp[cellsQ]
  | succ k =>
   have:=ih k (by simpa using h)
   rw[show (k+1)*2=k*2+1+1 by omega]
   simpa[cellsQ] using this
structure Hot (w:World) (B:Nat) (P:Nat→Prop) (v:Value) (Q:List Mq):Prop where
 own:w.ownsRow B 73 2 v Q.length (cellsQ Q)
 tos:∀q∈Q,InO w P q.2 q.1.2
theorem Hot.nil (w:World) (B:Nat) (P:Nat→Prop):Hot w B P (.slice none 0 0) []:=⟨World.ownsRow_nil _ _ _ _,by simp⟩
theorem Hot.keeps {w w':World} {B:Nat} {P R:Nat→Prop} {v:Value} {Q:List Mq} (h:Hot w B P v Q) (hk:Keeps w w' R) (h1:∀k,v.ownBlock=some k→¬R k) (h2:∀k,k<w.heap.size→R k→¬P k):Hot w' B P v Q :=
 ⟨hk.owns h.own h1,fun q hq=>(h.tos q hq).keeps hk h2⟩
theorem Hot.weak {w:World} {B:Nat} {P Q:Nat→Prop} {v:Value} {L:List Mq} (h:Hot w B P v L) (hq:∀b,b<w.heap.size→P b→Q b):Hot w B Q v L:=⟨h.own,fun q hq'=>(h.tos q hq').weak hq⟩
theorem Hot.slice {w:World} {B:Nat} {P:Nat→Prop} {v:Value} {Q:List Mq} (h:Hot w B P v Q):∃p c,v = .slice p Q.length c:=by
 rcases h.own.2 with⟨rfl,h3⟩|⟨g,cap,cur,rfl,_⟩
 ·exact⟨none,0,by rw[h3]⟩
 ·exact⟨_,cap,rfl⟩
theorem row_slice {w:World} {B:Nat} {t:TypeId} {z:Nat} {v:Value} {n:Nat} {xs:List Value} (h:w.ownsRow B t z v n xs):∃p n c,v = .slice p n c:=by
 rcases h.2 with⟨rfl,h3⟩|⟨g,cap,cur,rfl,_⟩
 ·exact⟨none,0,0,rfl⟩
 ·exact⟨_,_,cap,rfl⟩
theorem row_cap {w:World} {B:Nat} {t:TypeId} {z:Nat} {v:Value} {n:Nat} {xs:List Value} (h:w.ownsRow B t z v n xs) {p:Option Addr} {m c:Nat} (e:v = .slice p m c):m≤c:=by
 rcases h.2 with⟨rfl,h3⟩|⟨g,cap,cur,rfl,_,_,hn,_⟩
 ·injection e with _ e1 e2;omega
 ·injection e with _ e1 e2;omega
theorem Hot.cells {w : World} {B : Nat} {P : Nat → Prop} {v : Value} {Q : List Mq} (h : Hot w B P v Q) (k : Nat) (hk : k < Q.length) :
  ∃g cap q,v = .slice (some ⟨g,0,none⟩) Q.length cap∧Q[k]? = some q∧q∈Q∧v.ownBlock=some g∧w.cell? ⟨g,k*2,none⟩=some (.int .i64 q.1.1)∧w.cell? ⟨g,k*2+1,none⟩=some q.2:=by
 rcases h.own.2 with⟨rfl,h3⟩|⟨g,cap,cur,rfl,hB,hg,hn,hc,hs,ht⟩
 ·omega
 ·obtain⟨q,hq⟩:∃q,Q[k]? = some q:=⟨_,List.getElem?_eq_getElem hk⟩
  obtain⟨c1,c2⟩:=cellsQ_at Q k q hq
  have key:∀j u,j<Q.length*2→(cellsQ Q)[j]? = some u→w.cell? ⟨g,j,none⟩=some u:=by
   intro j u hj hu
   rw[cell_of_row w g j cur _ (0,0) hg]
   rw[←ht,List.getElem?_take,if_pos hj]at hu
   simpa using hu
  exact⟨g,cap,q,rfl,hq,List.mem_of_getElem? hq,rfl,key _ _ (by omega) c1,key _ _ (by omega) c2⟩
theorem Hot.mpO {w:World} {B:Nat} {P Z:Nat→Prop} {v:Value} {Q:List Mq} (h:Hot w B P v Q) (hl:Q.length≤1000) (h1:∀b,b<w.heap.size→P b→Z b) (h2:∀b,B≤b→b<w.heap.size→Z b):MpO w Z v (Q.map (·.1)):=by
 obtain⟨p,c,hv⟩:=h.slice
 refine⟨p,c,by rw[hv];simp,fun b off n c e=>?_,by simp;omega,fun k hk=>?_⟩
 ·have:=World.ownsRow.lt h.own b (by rw[e];rfl)
  exact⟨h2 b this.1 this.2,this.2⟩
 ·have hk':k<Q.length:=by simpa using hk
  obtain⟨g,cap,q,e,hq,hm,_,c1,c2⟩:=h.cells k hk'
  rw[hv]at e
  injection e with e _ _
  have hd:(Q.map (·.1)).getD k mp0=q.1:=by
   rw[List.getD_eq_getElem?_getD,List.getElem?_map,hq];rfl
  rw[hd]
  have ht:=(h.tos q hm).weak h1
  exact⟨g,0,q.2,e,by simpa using c1,by simpa using c2,ht.1,ht.2⟩
theorem InO.one {w:World} {P:Nat→Prop} {v:Value} {l:List Int} (h:InO w P v l):v.oneCell'=true:=by
 obtain⟨⟨p,c,rfl,_⟩,_⟩:=h;rfl
theorem step_append_map {w : World} {ops : Array Oper} {o : Oper} {a : Act} {K : Act → World → Prop} {Z : Exit → Act → World → Prop} {E : Prop} (hgd : o.guard = none) (s x : Operand)
  (ho:o.op = .call { callee := .builtin .append,args:=#[s,x],argTypes:=#[24,24]})
  (base:Nat) (v:Value) (Q:List Mq) (hs:a.eval s=v) (hown:w.ownsRow base 73 2 v Q.length (cellsQ Q))
  (b c:Nat) (q:Mq) (hx:a.eval x = .slice (some ⟨b,0,none⟩) 1 c) (c0:w.cell? ⟨b,0,none⟩=some (.int .i64 q.1.1)) (c1:w.cell? ⟨b,1,none⟩=some q.2) (hq:q.2.oneCell'=true)
  (hlen:Q.length≤1000) (hbase:base≤w.heap.size)
  (h:∀v' w',w'.ownsRow base 73 2 v' (Q++[q]).length (cellsQ (Q++[q]))→w.grownBy w' v.ownBlock→(v'.ownBlock=v.ownBlock∨v'.ownBlock=some w.heap.size)→K (a.put o.dst v') w') :
  if Region.wanted o (yielded ops a.tmps)=true then Oper.wp Tryz.prog o a w K Z else E:=by
 have hw:Region.wanted o (yielded ops a.tmps)=true:=by simp[Region.wanted,hgd]
 rw[if_pos hw]
 obtain⟨i0,hi,hz0,hz1,hz2⟩:=info_parts Tryz.infoMap
 have hin:∀j u,(cellsQ [q])[j]? = some u→w.cell? ((⟨b,0,none⟩:Addr).add j)=some u:=by
  intro j u hu
  rw[Addr.add_lit]
  rcases j with _|_|j
  ·simp only[cellsQ,List.getElem?_cons_zero,Option.some.injEq]at hu;subst hu;exact c0
  ·simp only[cellsQ,List.getElem?_cons_succ,List.getElem?_cons_zero,Option.some.injEq]at hu;subst hu;exact c1
  ·simp[cellsQ]at hu
 have hone:∀u∈cellsQ [q],u.oneCell'=true:=by
  intro u hu
  simp only[cellsQ,List.mem_cons,List.not_mem_nil,or_false]at hu
  rcases hu with rfl|rfl
  ·rfl
  ·exact hq
 obtain⟨v',w',hrun,h2,h3,_,h5⟩:=run_append_own_at (P:=Tryz.prog) w base 24 o.type 73 i0 _ 2 32 Tryz.underlying24 hi hz0 hz1 hz2 rfl (by decide) v Q.length _ hown
  ⟨b,0,none⟩ 1 c (cellsQ [q]) rfl hin hone (by unfold maxLen;omega) (by omega) hbase
 unfold Oper.wp execOp
 simp only[ho,resolve,invoke,builtin,Sem.run_bind,Sem.run_pure,Result.andThen_ok,List.map_toArray,List.map_cons,List.map_nil,hs,hx,hrun]
 exact h v' w' (by rw[List.length_append,cellsQ_append];exact h2) h3 h5
theorem step_append_one {w : World} {ops : Array Oper} {o : Oper} {a : Act} {K : Act → World → Prop} {Z : Exit → Act → World → Prop} {E : Prop} (hgd : o.guard = none) (s x : Operand)
  (ho:o.op = .call { callee := .builtin .append,args:=#[s,x],argTypes:=#[22,22]})
  (base:Nat) (v:Value) (xs:List Int) (hs:a.eval s=v) (hown:Ints w base v xs)
  (b c:Nat) (z:Int) (hx:a.eval x = .slice (some ⟨b,0,none⟩) 1 c) (c0:w.cell? ⟨b,0,none⟩=some (.int .i64 z))
  (hlen:xs.length≤1000) (hbase:base≤w.heap.size)
  (h:∀v' w',Ints w' base v' (xs++[z])→w.grownBy w' v.ownBlock→(v'.ownBlock=v.ownBlock∨v'.ownBlock=some w.heap.size)→K (a.put o.dst v') w') :
  if Region.wanted o (yielded ops a.tmps)=true then Oper.wp Tryz.prog o a w K Z else E:=by
 have hw:Region.wanted o (yielded ops a.tmps)=true:=by simp[Region.wanted,hgd]
 rw[if_pos hw]
 obtain⟨i0,hi,hz0,hz1,hz2⟩:=info_parts Tryz.info3
 have hin:∀j u,([Value.int .i64 z])[j]? = some u→w.cell? ((⟨b,0,none⟩:Addr).add j)=some u:=by
  intro j u hu
  rw[Addr.add_lit]
  rcases j with _|j
  ·simp only[List.getElem?_cons_zero,Option.some.injEq]at hu;subst hu;exact c0
  ·simp at hu
 obtain⟨v',w',hrun,h2,h3,_,h5⟩:=run_append_own_at (P:=Tryz.prog) w base 22 o.type 3 i0 _ 1 8 Tryz.underlying22 hi hz0 hz1 hz2 rfl (by decide) v xs.length _ hown
  ⟨b,0,none⟩ 1 c [Value.int .i64 z] rfl hin (by intro u hu;simp at hu;subst hu;rfl) (by unfold maxLen;omega) (by omega) hbase
 unfold Oper.wp execOp
 simp only[ho,resolve,invoke,builtin,Sem.run_bind,Sem.run_pure,Result.andThen_ok,List.map_toArray,List.map_cons,List.map_nil,hs,hx,hrun]
 exact h v' w' (by unfold Ints;simpa using h2) h3 h5
theorem wpList_append_one {w : World} {ops : Array Oper} {rest : List Oper} {o : Oper} {a : Act} {Q : Exit → Act → World → Prop} (s x : Operand)
  (ho:o.op = .call { callee := .builtin .append,args:=#[s,x],argTypes:=#[22,22]})
  (hgd:o.guard=none)
  (base:Nat) (v:Value) (xs:List Int) (hs:a.eval s=v) (hown:Ints w base v xs)
  (b c:Nat) (z:Int) (hx:a.eval x = .slice (some ⟨b,0,none⟩) 1 c) (c0:w.cell? ⟨b,0,none⟩=some (.int .i64 z))
  (hlen:xs.length≤1000) (hbase:base≤w.heap.size)
  (h:∀v' w',Ints w' base v' (xs++[z])→w.grownBy w' v.ownBlock→(v'.ownBlock=v.ownBlock∨v'.ownBlock=some w.heap.size)→wpList Tryz.prog ops Q rest (a.put o.dst v') w'):wpList Tryz.prog ops Q (o::rest) a w:=by
 unfold wpList
 have hw:Region.wanted o (yielded ops a.tmps)=true:=by simp[Region.wanted,hgd]
 rw[if_pos hw]
 refine .inl ?_
 have:=step_append_one (w:=w) (ops:=ops) (o:=o) (a:=a) (K:=fun a' w'=>wpList Tryz.prog ops Q rest a' w') (Z:=Q) (E:=True) hgd s x ho base v xs hs hown b c z hx c0 hlen hbase h
 rwa[if_pos hw]at this
end Go.Proofs.YtblcoicaeeiojaaGreatDoor
