/-
  keep.decomps.
-/
import Derived.Test.YtblcoicaeeiojaaGreatDoorSSiPmTblMem
import Derived.Deep.Cut
import Derived.Deep.RegionHeld3
set_option linter.unusedSimpArgs false
set_option linter.unusedVariables false
namespace Go.Proofs.YtblcoicaeeiojaaGreatDoor
open Go.RowKit
theorem Keeps.undrewg {W w1:World} {R:Nat→Prop} (h:Keeps W.drew w1 R):Keeps W w1 R:=⟨h.os,h.tape,h.output,h.size,h.block⟩
theorem Src.drew {w:World} {g:Nat} {r:List Int} (h:Src w g r):Src w.drew g r:=h.keeps (R:=fun _=>False) ⟨rfl,rfl,rfl,Nat.le_refl _,fun _ _ _=>rfl⟩ (fun _ _ e=>e)
structure DSt (w0 w:World) (gs g:Nat) (f:Nat→Value) (v9 v10:Value) (Q:List Mq) (E:List Int) (r:List Int):Prop where
 src:Src w gs r
 box:BoxF w g (upd (upd f 9 v9) 10 v10)
 hot:Hot w w0.heap.size (fun b=>w0.heap.size≤b∧v9.ownBlock≠some b∧v10.ownBlock≠some b) v9 Q
 exc:Ints w w0.heap.size v10 E
 apart:∀b,v9.ownBlock=some b→v10.ownBlock≠some b
 keep:Keeps w0 w (fun b=>b=gs∨b=g)
 ord:gs<g∧g<w0.heap.size
theorem upd_self {A:Type} (f:Nat→A) (i:Nat) (v:A) (h:f i=v):upd f i v=f:=by
 funext j;unfold upd;split
 ·rename_i e;rw[e,h]
 ·rfl
theorem upd_upd {A:Type} (f:Nat→A) (i:Nat) (v u:A):upd (upd f i v) i u=upd f i u:=by
 funext j;unfold upd;split<;>rfl
theorem upd_swap {A:Type} (f:Nat→A) (i k:Nat) (v u:A) (h:i≠k):upd (upd f i v) k u=upd (upd f k u) i v:=by
 funext j;unfold upd
 by_cases h1:j=k
 ·rw[if_pos h1,if_neg (by omega),if_pos h1]
 ·rw[if_neg h1]
  by_cases h2:j=i
  ·rw[if_pos h2,if_pos h2]
  ·rw[if_neg h2,if_neg h2,if_neg h1]
section
variable {w0 w w1 w':World} {gs g:Nat} {f:Nat→Value} {v9 v10:Value} {Q:List Mq} {E r r':List Int}
theorem DSt.size (h:DSt w0 w gs g f v9 v10 Q E r):w0.heap.size≤w.heap.size:=h.keep.size
theorem DSt.step (h:DSt w0 w gs g f v9 v10 Q E r) (hk:Keeps w w' (fun b=>b=gs)) (hs:Src w' gs r'):DSt w0 w' gs g f v9 v10 Q E r':=by
 have ho:=h.ord
 have h9:=fun b hb=>World.ownsRow.lt h.hot.own b hb
 have h10:=fun b hb=>World.ownsRow.lt h.exc b hb
 exact⟨hs,h.box.keeps hk (by omega),h.hot.keeps hk (fun b hb e=>by have:=h9 b hb;omega) (fun b hb e hh=>by omega),hk.owns h.exc (fun b hb e=>by have:=h10 b hb;omega),h.apart,h.keep.trans hk (fun _ _ e=>e) (fun _ _ e => .inl e),ho⟩
theorem DSt.below (h:DSt w0 w gs g f v9 v10 Q E r) (hb:Below w.heap.size w w'):DSt w0 w' gs g f v9 v10 Q E r :=
 h.step ((Keeps.of_below hb).weak (fun b hb e=>by omega)) (h.src.below hb)
theorem DSt.start (hs:Src w gs r) (hb:BoxF w g f) (h9:f 9 = .slice none 0 0) (h10:f 10 = .slice none 0 0) (ho:gs<g):DSt w w gs g f (.slice none 0 0) (.slice none 0 0) [] [] r :=
 ⟨hs,by rw[upd_self _ _ _ h9,upd_self _ _ _ h10];exact hb,Hot.nil _ _ _,Ints.nil _ _,(by intro b hb;cases hb),Keeps.refl _ _,⟨ho,hb.lt⟩⟩
theorem DSt.addE {v : Value} {z : Int} (h : DSt w0 w gs g f v9 v10 Q E r) (ho : Ints w' w0.heap.size v (E ++ [z])) (hg : w1.grownBy w' v10.ownBlock) (hv : v.ownBlock = v10.ownBlock ∨ v.ownBlock = some w1.heap.size) (hb : Below w.heap.size w w1) :
  DSt w0 (w'.setCell ⟨g,10,none⟩ v) gs g f v9 v Q (E++[z]) r∧w'.cell? ⟨g,10,none⟩=some v10∧w'.frozen? ⟨g,10,none⟩=false∧Keeps w (w'.setCell ⟨g,10,none⟩ v) (fun b=>v10.ownBlock=some b∨b=g)∧
   ∀u l,InO w (fun b=>w0.heap.size≤b∧v9.ownBlock≠some b∧v10.ownBlock≠some b) u l→InO (w'.setCell ⟨g,10,none⟩ v) (fun b=>w0.heap.size≤b∧v9.ownBlock≠some b∧v.ownBlock≠some b) u l:=by
 have hor:=h.ord
 have hz:=hb.size
 have hz0:=h.size
 have h9:=fun b hb=>World.ownsRow.lt h.hot.own b hb
 have h10:=fun b hb=>World.ownsRow.lt h.exc b hb
 have hk1:Keeps w w' (fun b=>v10.ownBlock=some b):=(Keeps.of_below hb).trans (Keeps.of_grown hg) (fun b hb e=>by omega) (fun _ _ e=>e)
 have hk2:=Keeps.store w' g 10 v
 have hk3:Keeps w (w'.setCell ⟨g,10,none⟩ v) (fun b=>v10.ownBlock=some b∨b=g):=hk1.trans hk2 (fun _ _ e => .inl e) (fun _ _ e => .inr e)
 have hg10:¬v10.ownBlock=some g:=fun e=>by have:=h10 g e;omega
 have hbx:=h.box.keeps hk1 hg10
 have hnew:∀b,b<w.heap.size→v10.ownBlock≠some b→v.ownBlock≠some b:=by
  intro b hb hn e
  rcases hv with hv|hv
  ·exact hn (by rw[←hv,e])
  ·rw[hv]at e;injection e with e;omega
 have hgv:v.ownBlock≠some g:=hnew g (by omega) hg10
 have c10:w'.cell? ⟨g,10,none⟩=some v10:=by have:=(hbx 10 (by omega)).1;rwa[upd_same]at this
 refine⟨⟨h.src.keeps hk3 (fun b hb e=>?_),?_,?_,hk2.owns ho (fun b hb e=>hgv (by rw[hb,e])),fun b hb=>hnew b (h9 b hb).2 (h.apart b hb),h.keep.trans hk3 (fun _ _ e=>e) (fun b hb e=>?_),hor⟩,c10,(hbx 10 (by omega)).2,hk3,fun u l hu=>?_⟩
 ·rcases e with e|e
  ·have:=h10 b e;omega
  ·omega
 ·have:=hbx.sets (Sets.store w' g 10 v _ c10)
  rwa[upd_upd]at this
 ·have h1:=h.hot.weak (Q:=fun b=>(w0.heap.size≤b∧v9.ownBlock≠some b∧v10.ownBlock≠some b)∧b<w.heap.size) (fun b hb e=>⟨e,hb⟩)
  have h2:=h1.keeps hk3 (fun b hb e=>by
   rcases e with e|e
   ·exact h.apart b hb e
   ·have:=h9 b hb;omega) (fun b hb e hh=>by
   rcases e with e|e
   ·exact hh.1.2.2 e
   ·have:=hh.1.1;omega)
  exact h2.weak (fun b hb e=>⟨e.1.1,e.1.2.1,hnew b e.2 e.1.2.2⟩)
 ·rcases e with e|e
  ·have:=h10 b e;omega
  ·exact .inr e
 ·have h1:=hu.weak (Q:=fun b=>(w0.heap.size≤b∧v9.ownBlock≠some b∧v10.ownBlock≠some b)∧b<w.heap.size) (fun b hb e=>⟨e,hb⟩)
  have h2:=h1.keeps hk3 (fun b hb e hh=>by
   rcases e with e|e
   ·exact hh.1.2.2 e
   ·have:=hh.1.1;omega)
  exact h2.weak (fun b hb e=>⟨e.1.1,e.1.2.1,hnew b e.2 e.1.2.2⟩)
theorem DSt.addQ {v : Value} {q : Mq} (h : DSt w0 w gs g f v9 v10 Q E r) (hq : InO w (fun b => w0.heap.size ≤ b ∧ v9.ownBlock ≠ some b ∧ v10.ownBlock ≠ some b) q.2 q.1.2) (ho : w'.ownsRow w0.heap.size 73 2 v (Q ++ [q]).length (cellsQ (Q ++ [q])))
  (hg:w1.grownBy w' v9.ownBlock) (hv:v.ownBlock=v9.ownBlock∨v.ownBlock=some w1.heap.size) (hb:Below w.heap.size w w1) :
  DSt w0 (w'.setCell ⟨g,9,none⟩ v) gs g f v v10 (Q++[q]) E r∧w'.cell? ⟨g,9,none⟩=some v9∧w'.frozen? ⟨g,9,none⟩=false:=by
 have hor:=h.ord
 have hz:=hb.size
 have hz0:=h.size
 have h9:=fun b hb=>World.ownsRow.lt h.hot.own b hb
 have h10:=fun b hb=>World.ownsRow.lt h.exc b hb
 have hk1:Keeps w w' (fun b=>v9.ownBlock=some b):=(Keeps.of_below hb).trans (Keeps.of_grown hg) (fun b hb e=>by omega) (fun _ _ e=>e)
 have hk2:=Keeps.store w' g 9 v
 have hk3:Keeps w (w'.setCell ⟨g,9,none⟩ v) (fun b=>v9.ownBlock=some b∨b=g):=hk1.trans hk2 (fun _ _ e => .inl e) (fun _ _ e => .inr e)
 have hg9:¬v9.ownBlock=some g:=fun e=>by have:=h9 g e;omega
 have hbx:=h.box.keeps hk1 hg9
 have hnew:∀b,b<w.heap.size→v9.ownBlock≠some b→v.ownBlock≠some b:=by
  intro b hb hn e
  rcases hv with hv|hv
  ·exact hn (by rw[←hv,e])
  ·rw[hv]at e;injection e with e;omega
 have hgv:v.ownBlock≠some g:=hnew g (by omega) hg9
 have c9:w'.cell? ⟨g,9,none⟩=some v9:=by have:=(hbx 9 (by omega)).1;rwa[upd_other _ _ (by omega),upd_same]at this
 have key:∀u l,InO w (fun b=>w0.heap.size≤b∧v9.ownBlock≠some b∧v10.ownBlock≠some b) u l→InO (w'.setCell ⟨g,9,none⟩ v) (fun b=>w0.heap.size≤b∧v.ownBlock≠some b∧v10.ownBlock≠some b) u l:=by
  intro u l hu
  have h1:=hu.weak (Q:=fun b=>(w0.heap.size≤b∧v9.ownBlock≠some b∧v10.ownBlock≠some b)∧b<w.heap.size) (fun b hb e=>⟨e,hb⟩)
  have h2:=h1.keeps hk3 (fun b hb e hh=>by
   rcases e with e|e
   ·exact hh.1.2.1 e
   ·have:=hh.1.1;omega)
  exact h2.weak (fun b hb e=>⟨e.1.1,hnew b e.2 e.1.2.1,e.1.2.2⟩)
 refine⟨⟨h.src.keeps hk3 (fun b hb e=>?_),?_,⟨hk2.owns ho (fun b hb e=>hgv (by rw[hb,e])),?_⟩,hk3.owns h.exc (fun b hb e=>?_),?_,h.keep.trans hk3 (fun _ _ e=>e) (fun b hb e=>?_),hor⟩,c9,(hbx 9 (by omega)).2⟩
 ·rcases e with e|e
  ·have:=h9 b e;omega
  ·omega
 ·have:=hbx.sets (Sets.store w' g 9 v _ c9)
  rwa[upd_swap f 9 10 v9 v10 (by omega),upd_upd,upd_swap f 10 9 v10 v (by omega)]at this
 ·intro x hx
  rcases List.mem_append.1 hx with hx|hx
  ·exact key _ _ (h.hot.tos x hx)
  ·rw[List.mem_singleton]at hx;subst hx;exact key _ _ hq
 ·rcases e with e|e
  ·exact h.apart b e hb
  ·have:=h10 b hb;omega
 ·intro b hb e
  exact hnew b (h10 b e).2 (fun e9=>h.apart b e9 e) hb
 ·rcases e with e|e
  ·have:=h9 b e;omega
  ·exact .inr e
end
structure MSt (B:Nat) (wr w:World) (gs mb:Nat) (fr:Int) (u:Value) (tl r:List Int):Prop where
 src:Src w gs r
 c0:w.cell? ⟨mb,0,none⟩=some (.int .i64 fr)
 c1:w.cell? ⟨mb,1,none⟩=some u
 f1:w.frozen? ⟨mb,1,none⟩=false
 own:Ints w B u tl
 ne:u.ownBlock≠some mb
 keep:Keeps wr w (fun b=>b=gs)
 ord:B=wr.heap.size∧B≤mb∧gs<B
section
variable {wr w w':World} {B gs mb tb:Nat} {fr a:Int} {u:Value} {tl r r':List Int}
theorem MSt.lt (h:MSt B wr w gs mb fr u tl r):mb<w.heap.size:=World.block_lt_of_cell? w _ h.c0
theorem MSt.step (h:MSt B wr w gs mb fr u tl r) (hk:Keeps w w' (fun b=>b=gs)) (hs:Src w' gs r'):MSt B wr w' gs mb fr u tl r':=by
 have ho:=h.ord
 have hm:mb≠gs:=by omega
 have hu:=fun b hb=>World.ownsRow.lt h.own b hb
 exact⟨hs,hk.cell h.c0 hm,hk.cell h.c1 hm,(World.frozen?_of_block (a:=⟨mb,1,none⟩) (hk.block mb h.lt hm)).trans h.f1,hk.owns h.own (fun b hb e=>by have:=hu b hb;omega),h.ne,h.keep.trans hk (fun _ _ e=>e) (fun _ _ e=>e),ho⟩
theorem next_keeps (h:w.grownBy w' (some gs)):Keeps w w' (fun b=>b=gs):=(Keeps.of_grown h).weak (fun b _ e=>by injection e with e;exact e.symm)
theorem ints_lit1 (w:World) (a:Int) (B:Nat) (hB:B≤w.heap.size):Ints (w.alloc (.cells #[.int .i64 a] 3)) B (.slice (some ⟨w.heap.size,0,none⟩) 1 1) [a] :=
 World.ownsRow_lit (base:=B) (e:=3) (size:=1) w #[.int .i64 a] 1 hB (by unfold maxLen;omega) rfl
theorem MSt.new (hk : Keeps wr w (fun b => b = gs)) (hs : Src w gs r) (hg : gs < wr.heap.size) :
  MSt wr.heap.size wr ((w.alloc (.cells #[.int .i64 a] 3)).alloc (.cells #[.int .i64 fr,.slice (some ⟨w.heap.size,0,none⟩) 1 1] 73)) gs (w.heap.size+1) fr (.slice (some ⟨w.heap.size,0,none⟩) 1 1) [a] r:=by
 have hz:=hk.size
 have e1:(w.alloc (.cells #[.int .i64 a] 3)).heap.size=w.heap.size+1:=by simp
 have hb1:=(Below.refl w.heap.size w).alloc (Nat.le_refl _) (.cells #[.int .i64 a] 3)
 have hb2:=hb1.alloc (by omega) (.cells #[.int .i64 fr,.slice (some ⟨w.heap.size,0,none⟩) 1 1] 73)
 refine⟨hs.below hb2,?_,?_,?_,(ints_lit1 w a _ hz).alloc _,?_,hk.trans (Keeps.of_below hb2) (fun _ _ e=>e) (fun b hb e=>by omega),rfl,by omega,hg⟩
 ·rw[←e1];simp[World.cell?_alloc_new]
 ·rw[←e1];simp[World.cell?_alloc_new]
 ·rw[←e1];simp
 ·intro e;injection e with e;simp at e
theorem MSt.row (h:MSt B wr w gs mb fr (.slice (some ⟨tb,0,none⟩) 1 1) [a] r):w.cell? ⟨tb,0,none⟩=some (.int .i64 a):=by
 obtain⟨p,c,e,hin⟩:=h.own.inn
 obtain⟨b',off',e',hc⟩:=hin 0 (by simp)
 cases e
 cases e'
 exact hc
theorem MSt.free (h:MSt B wr w gs mb fr (.slice (some ⟨tb,0,none⟩) 1 1) [a] r):w.frozen? ⟨tb,0,none⟩=false:=World.ownsRow.frozenAt (g:=tb) (cap:=1) (n:=1) h.own 0
theorem MSt.setTo (h:MSt B wr w gs mb fr (.slice (some ⟨tb,0,none⟩) 1 1) [a] r) (b:Int):MSt B wr (w.setCell ⟨tb,0,none⟩ (.int .i64 b)) gs mb fr (.slice (some ⟨tb,0,none⟩) 1 1) [b] r:=by
 have ht:=World.ownsRow.lt h.own tb rfl
 have ho:=h.ord
 have hk:=Keeps.store w tb 0 (.int .i64 b)
 have hm:mb≠tb:=fun e=>h.ne (by rw[e];rfl)
 exact⟨h.src.keeps hk (fun j hj e=>by omega),hk.cell h.c0 hm,hk.cell h.c1 hm,(World.frozen?_of_block (a:=⟨mb,1,none⟩) (hk.block mb h.lt hm)).trans h.f1,(World.ownsRow.stored (g:=tb) (n:=1) h.own 0 (.int .i64 b)).1,h.ne,h.keep.trans hk (fun _ _ e=>e) (fun j hj e=>by omega),ho⟩
theorem MSt.inO (h:MSt B wr w gs mb fr u tl r) (hl:tl.length≤1000):InO w (fun b=>B≤b) u tl:=by
 obtain⟨p,c,rfl,hin⟩:=h.own.inn
 exact⟨⟨p,c,rfl,hin,by omega⟩,fun b off n c e=>World.ownsRow.lt h.own b (by rw[e];rfl)⟩
theorem MSt.more {v:Value} {b:Int} {w1:World} (h:MSt B wr w gs mb fr u tl r) (hb:Below w.heap.size w w1) (ho:Ints w' B v (tl++[b])) (hg:w1.grownBy w' u.ownBlock) (hv:v.ownBlock=u.ownBlock∨v.ownBlock=some w1.heap.size):MSt B wr (w'.setCell ⟨mb,1,none⟩ v) gs mb fr v (tl++[b]) r:=by
 have hu:=fun b hb=>World.ownsRow.lt h.own b hb
 have hor:=h.ord
 have hlt:=h.lt
 have hz:=hb.size
 have hk1:Keeps w w' (fun b=>u.ownBlock=some b):=(Keeps.of_below hb).trans (Keeps.of_grown hg) (fun b hb e=>by omega) (fun _ _ e=>e)
 have hk2:=Keeps.store w' mb 1 v
 have hk3:Keeps w (w'.setCell ⟨mb,1,none⟩ v) (fun b=>u.ownBlock=some b∨b=mb):=hk1.trans hk2 (fun _ _ e => .inl e) (fun _ _ e => .inr e)
 have hne:v.ownBlock≠some mb:=by
  intro e
  rcases hv with hv|hv
  ·exact h.ne (by rw[←hv,e])
  ·rw[hv]at e;injection e with e;omega
 have c0:w'.cell? ⟨mb,0,none⟩=some (.int .i64 fr):=hk1.cell h.c0 h.ne
 have c1:w'.cell? ⟨mb,1,none⟩=some u:=hk1.cell h.c1 h.ne
 refine⟨h.src.keeps hk3 (fun j hj e=>?_),(World.cell?_setCell_other _ ⟨mb,1,none⟩ ⟨mb,0,none⟩ _ (by simp)).trans c0,World.cell?_setCell_same _ _ _ c1,?_,hk2.owns ho (fun k hk e=>hne (by rw[hk,e])),hne,h.keep.trans hk3 (fun _ _ e=>e) (fun j hj e=>?_),hor⟩
 ·rcases e with e|e
  ·have:=hu j e;omega
  ·omega
 ·rw[World.frozen?_setCell]
  exact(World.frozen?_of_block (a:=⟨mb,1,none⟩) (hk1.block mb hlt h.ne)).trans h.f1
 ·rcases e with e|e
  ·have:=hu j e;omega
  ·omega
theorem first_more {v : Value} {b : Int} {w1 : World} (h : MSt B wr w gs mb fr u tl r) (ho : Ints w' B v (tl ++ [b])) (hg : w1.grownBy w' u.ownBlock) (hv : v.ownBlock = u.ownBlock ∨ v.ownBlock = some w1.heap.size) (hb : Below w.heap.size w w1) :
  MSt B wr (w'.setCell ⟨mb,1,none⟩ v) gs mb fr v (tl++[b]) r∧w'.cell? ⟨mb,1,none⟩=some u∧w'.frozen? ⟨mb,1,none⟩=false:=by
 have hz:=hb.size
 have hk1:Keeps w w' (fun b=>u.ownBlock=some b):=(Keeps.of_below hb).trans (Keeps.of_grown hg) (fun b hb e=>by omega) (fun _ _ e=>e)
 exact⟨h.more hb ho hg hv,hk1.cell h.c1 h.ne,(World.frozen?_of_block (a:=⟨mb,1,none⟩) (hk1.block mb h.lt h.ne)).trans h.f1⟩
end
def DecPost (gs g:Nat) (f:Nat→Value) (w:World) (e:Ending) (w':World):Prop :=
 e = .returned (.tuple #[])∧∃r v9 v10 D E,DecOk 5 D E∧Src w' gs r∧BoxF w' g (upd (upd f 9 v9) 10 v10)∧MpO w' (fun b=>w.heap.size≤b) v9 D∧InO w' (fun b=>w.heap.size≤b) v10 E∧Keeps w w' (fun b=>b=gs∨b=g)∧∀p n c,v9 = .slice p n c→n≤c
theorem Ints.inO {w:World} {B:Nat} {v:Value} {l:List Int} (h:Ints w B v l) (hl:l.length≤1000):InO w (fun b=>B≤b) v l:=by
 obtain⟨p,c,rfl,hin⟩:=h.inn
 exact⟨⟨p,c,rfl,hin,by omega⟩,fun b off n c e=>World.ownsRow.lt h b (by rw[e];rfl)⟩
theorem DSt.done {w0 w:World} {gs g:Nat} {f:Nat→Value} {v9 v10:Value} {Q:List Mq} {E r:List Int} (h:DSt w0 w gs g f v9 v10 Q E r) (hok:DecOk 5 (Q.map (·.1)) E):DecPost gs g f w0 (.returned (.tuple #[])) w:=by
 have h1:=hok.len
 have h2:=hok.elen
 refine⟨rfl,r,v9,v10,_,E,hok,h.src,h.box,h.hot.mpO (by simp at h1;omega) (fun b _ hb=>hb.1) (fun b hb _=>hb),h.exc.inO (by omega),h.keep,fun p n c e=>row_cap h.hot.own e⟩
set_option maxRecDepth 100000 in
set_option maxHeartbeats 4000000 in
theorem decomps_any (gs g : Nat) (f : Nat → Value) (r0 : List Int) (w : World) (hs : Src w gs r0) (hb : BoxF w g f) (h9 : f 9 = .slice none 0 0) (h10 : f 10 = .slice none 0 0) (ho : gs < g) :
  Calls Tryz.prog 35 #[.pointer (some ⟨gs,0,none⟩),.pointer (some ⟨g,0,none⟩)] w (DecPost gs g f w):=by
 have HD:=Lib.hid (DSt.start hs hb h9 h10 ho)
 clear hs hb h9 h10
 go_enter Tryz.func35,Tryz.ntmps35
 go_wp2
 go_loopw [4] (fun kv wr=>∃(k:Nat) (v9 v10:Value) (Q:List Mq) (E r:List Int),k≤5∧kv = .int .i64 k∧Hid (DSt w wr gs g f v9 v10 Q E r)∧Hid (DecOk k (Q.map (·.1)) E)) (fun kv _=>5-(intOf kv).toNat)
 case atStart=>exact⟨0,_,_,_,_,r0,by omega,rfl,HD,DecOk.nil⟩
 case round =>
  obtain⟨k,v9,v10,Q,E,r,hk,rfl,hd,hok⟩:=hrel
  by_cases hk5:k<5
  ·obtain⟨x,hx⟩:∃x,nextV r 4=x:=⟨_,rfl⟩
   have HX:=Lib.hid hx
   clear hx
   by_cases hx0:x=0
   ·subst hx0
    go_wp2_with fail
    refine(next_at gs r 4 0 _ hd.out.src (by omega) (by omega) HX).mono ?_
    rintro e w1 ⟨rfl,hs1,hg1⟩
    have HD1:=Lib.hid ((hd.out.step ((Keeps.of_grown hg1).weak (fun b _ e=>by injection e with e;exact e.symm)) hs1))
    clear hs1 hg1
    go_wp2
    go_roundw
    case rel=>exact⟨k+1,_,_,_,_,_,by omega,by go_num,HD1,hok.out.skip⟩
    case measure=>simp[intOf];omega
   ·go_wp2_with fail
    refine(next_at gs r 4 x _ hd.out.src (by omega) (by omega) HX).mono ?_
    rintro e w1 ⟨rfl,hs1,hg1⟩
    have HK1:=Lib.hid ((Keeps.of_grown hg1).weak (Q:=fun b=>b=gs) (fun b _ e=>by injection e with e;exact e.symm))
    have HS1:=Lib.hid hs1
    clear hs1 hg1
    obtain⟨q,hq⟩:∃q,nextV r.tail 2=q:=⟨_,rfl⟩
    obtain⟨q0,q1⟩:=nextV_bd r.tail 2 (by omega)
    rw[hq]at q0 q1
    have HQ:=Lib.hid hq
    clear hq
    go_wp2_with fail
    refine(next_at gs r.tail 2 q _ HS1.out (by omega) (by omega) HQ).mono ?_
    rintro e w2 ⟨rfl,hs2,hg2⟩
    have HK2:=Lib.hid (HK1.out.trans ((Keeps.of_grown hg2).weak (Q:=fun b=>b=gs) (fun b _ e=>by injection e with e;exact e.symm)) (fun _ _ e=>e) (fun _ _ e=>e))
    have HS2:=Lib.hid hs2
    clear hs2 hg2 HK1 HS1
    go_upto_region 5 with(fail)
    have hgw:gs<wr.heap.size:=hd.out.src.lt
    have hst:=MSt.new (fr:=7680+k) (a:=97+q) HK2.out HS2.out hgw
    have htb:wr.heap.size≤w2.heap.size:=HK2.out.size
    generalize ((w2.alloc (.cells #[.int .i64 (97+q)] 3)).alloc (.cells #[.int .i64 (7680+k),.slice (some ⟨w2.heap.size,0,none⟩) 1 1] 73))=W at hst ⊢
    have hmt:w2.heap.size≠w2.heap.size+1:=by omega
    generalize w2.heap.size+1=mb at hst hmt ⊢
    generalize w2.heap.size=tb at hst htb hmt ⊢
    have HST:=Lib.hid hst
    have HHD:Hid (headOk k (97+q)):=by unfold Hid headOk;omega
    clear HK2 HS2 hst q0 q1
    generalize 97+q=a at HST HHD ⊢
    clear HQ
    go_cut [29] (fun c wx=>∃(B:Bool) (r':List Int),c = .bool B∧(B=true→0<k)∧Hid (MSt wr.heap.size wr wx gs mb (7680+k) (.slice (some ⟨tb,0,none⟩) 1 1) [a] r'))
    case first =>
     by_cases hk0:k=0
     ·subst hk0
      go_wp2_with fail
      go_meet
      exact⟨false,_,rfl,by simp,HST⟩
     ·have hkp:0<k:=by omega
      obtain⟨y,hy⟩:∃y,nextV r.tail.tail 3=y:=⟨_,rfl⟩
      have HY:=Lib.hid hy
      clear hy
      go_wp2_with fail
      refine(next_at gs r.tail.tail 3 y _ HST.out.src (by omega) (by omega) HY).mono ?_
      rintro e w3 ⟨rfl,hs3,hg3⟩
      have hk3:=next_keeps hg3
      have HS3:=Lib.hid (HST.out.step hk3 hs3)
      clear hs3 hg3 hk3
      go_wp2_with fail
      go_meet
      exact⟨y==0,_,rfl,by intro _;omega,HS3⟩
    case rest =>
     obtain⟨B,r3,rfl,hB,hst⟩:=hcut
     clear HST
     go_upto_if 29 with(fail)
     go_cut [5] (fun v wx=>∃(a':Int) (r':List Int),v = .pointer (some ⟨mb,0,none⟩)∧Hid (headOk k a')∧Hid (MSt wr.heap.size wr wx gs mb (7680+k) (.slice (some ⟨tb,0,none⟩) 1 1) [a'] r'))
     case first =>
      cases B with
      | false =>
       go_wp2_with fail
       go_meet
       exact⟨a,_,rfl,HHD,hst⟩
      | true =>
       have hkp:0<k:=hB rfl
       obtain⟨z,hz⟩:∃z,nextV r3 k=z:=⟨_,rfl⟩
       obtain⟨z0,z1⟩:=nextV_bd r3 k (by omega)
       rw[hz]at z0 z1
       have HZ:=Lib.hid hz
       have HH2:Hid (headOk k (7680+z)) := .inr (.inr ⟨z.toNat,by omega,by omega⟩)
       have x1:=hst.out.c1
       have hwz:IntKind.i64.wrap (7680+z)=7680+z:=IntWalk.i64_in _ (by omega)
       clear hz
       go_upto_region 6 with(fail)
       go_region_law
        (go_simp
         go_at_call 30
         refine(next_at gs r3 k z _ hst.out.src.drew (by omega) (by omega) HZ).mono ?_
         rintro e w4 ⟨rfl,hs4,hg4⟩
         have hk4:=next_keeps hg4
         have hs5:=MSt.step (w:=wc) hst.out ⟨hk4.os,hk4.tape,hk4.output,hk4.size,hk4.block⟩ hs4
         have HS5:=Lib.hid hs5
         have y1:=hs5.c1
         have y2:=hs5.row
         have y3:=hs5.free)
       all_goals
        go_wp2_with fail
        go_meet
        exact⟨7680+z,_,rfl,HH2,HS5.out.setTo _⟩
     case rest =>
      obtain⟨a2,r4,rfl,hh2,hst2⟩:=hcut
      clear hst
      obtain⟨z,hz⟩:∃z,nextV r4 8=z:=⟨_,rfl⟩
      have HZ:=Lib.hid hz
      clear hz
      go_wp2_with fail
      refine(next_at gs r4 8 z _ hst2.out.src (by omega) (by omega) HZ).mono ?_
      rintro e w4 ⟨rfl,hs4,hg4⟩
      have HS4:=Lib.hid (hst2.out.step (next_keeps hg4) hs4)
      clear hs4 hg4 hst2
      go_upto_if 39 with(fail)
      go_cut [5] (fun v wx=>∃(u:Value) (tl r':List Int),v = .pointer (some ⟨mb,0,none⟩)∧Hid (toOk k tl)∧Hid (MSt wr.heap.size wr wx gs mb (7680+k) u tl r'))
      case first =>
       by_cases hz0:0<z
       ·obtain⟨j,hj⟩:∃j:Nat,nextV r4.tail 5=j:=⟨(nextV r4.tail 5).toNat,by have:=nextV_bd r4.tail 5 (by omega);omega⟩
        have hj5:j<5:=by have:=nextV_bd r4.tail 5 (by omega);omega
        have HJ:=Lib.hid hj
        obtain⟨b,hb⟩:∃b,marks.getD j 0=b:=⟨_,rfl⟩
        have HBM:Hid (b∈marks):=by unfold Hid;rw[←hb];exact getD_mem_int _ _ (by simpa[marks] using hj5)
        have hlit:∀W:World,(W.alloc (.cells #[.int .i64 769,.int .i64 776,.int .i64 803,.int .i64 837,.int .i64 945] 3)).cell? ⟨W.heap.size,j,none⟩=some (.int .i64 b):=by
         intro W
         obtain⟨_,_,e,hc⟩:=lit_ints W #[.int .i64 769,.int .i64 776,.int .i64 803,.int .i64 837,.int .i64 945] marks 3 rfl j (by simpa[marks] using hj5)
         cases e
         rw[hb]at hc
         simpa using hc
        have l4:=hlit w4
        have x1:=HS4.out.c1
        have hmb:=HS4.out.lt
        have x2:∀o,(w4.alloc o).cell? ⟨mb,1,none⟩=some (.slice (some ⟨tb,0,none⟩) 1 1):=fun o=>(Keeps.alloc w4 o).cell x1 (fun e=>e)
        have hji:(j:Int)<5:=by omega
        clear hj hb
        go_upto_region 8 with(fail)
        go_region_law (first
         | (refine step_append_one (by rfl) _ _ (by rfl) wr.heap.size (.slice (some ⟨tb, 0, none⟩) 1 1) [a2] (by rfl) (by first | exact hs5.own.alloc _ | exact (hs5.own.alloc _).alloc _) _ 1 b (by rfl) (by simp [World.cell?_alloc_new]) (by simp) (by have := hs5.ord; have := hs5.keep.size; simp; omega) ?_
            intro v6 w6 ho6 hg6 hv6
            obtain⟨p6,n6,q6,rfl⟩:∃p n q,v6 = .slice p n q:=by obtain⟨p,c,e,_⟩:=ho6.inn;exact⟨p,_,c,e⟩
            have hm6:=Lib.hid (first_more hs5 ho6 hg6 hv6 (by first|exact(Below.refl _ _).alloc (Nat.le_refl _) _|exact((Below.refl _ _).alloc (Nat.le_refl _) _).alloc (by simp) _))
            have c6:w6.cell? ⟨mb,1,none⟩=some (.slice (some ⟨tb,0,none⟩) 1 1):=hm6.out.2.1
            have f6:w6.frozen? ⟨mb,1,none⟩=false:=hm6.out.2.2)
         | (go_simp
            go_at_call 30
            refine(next_at gs r4.tail 5 j _ (by first|exact HS4.out.src.drew|exact(HS4.out.src.alloc _).drew) (by omega) (by omega) HJ).mono ?_
            rintro e w5 ⟨rfl,hs5',hg5⟩
            have hk5:Keeps w4 w5 (fun b=>b=gs):=by
             first
              | exact(next_keeps hg5).undrewg
              | exact(Keeps.alloc w4 _).trans (next_keeps hg5).undrewg (fun _ _ e=>e.elim) (fun _ _ e=>e)
            have hs5:=HS4.out.step hk5 hs5'
            have y1:=hs5.c1
            have hmb5:=hs5.lt
            have y2:∀o,(w5.alloc o).cell? ⟨mb,1,none⟩=some (.slice (some ⟨tb,0,none⟩) 1 1):=fun o=>(Keeps.alloc w5 o).cell y1 (fun e=>e)
            have y3:∀o o',((w5.alloc o).alloc o').cell? ⟨mb,1,none⟩=some (.slice (some ⟨tb,0,none⟩) 1 1):=fun o o'=>(Keeps.alloc _ o').cell (y2 o) (fun e=>e)
            have l5:=hlit w5
            try have l6:w5.cell? ⟨w4.heap.size,j,none⟩=some (.int .i64 b):=hg5.cell l4 (by have:=hs5.ord;have:=HS4.out.keep.size;simp;omega)))
        all_goals
         clear ho6 hg6 hv6
         go_wp2_with fail
         go_meet
         exact⟨_,[a2]++[b],_,rfl,⟨a2,hh2.out,.inr ⟨b,HBM.out,rfl⟩⟩,hm6.out.1⟩
       ·go_wp2_with fail
        go_meet
        exact⟨_,[a2],_,rfl,⟨a2,hh2.out,.inl rfl⟩,HS4⟩
      case rest =>
       obtain⟨u,tl,r5,rfl,hto,hst3⟩:=hcut
       clear HS4
       obtain⟨pu,cu,hu,_⟩:=hst3.out.own.inn
       subst hu
       obtain⟨p9,c9,N,hN,rfl⟩:∃p c N,Q.length=N∧v9 = .slice p N c:=by obtain⟨p,c,e⟩:=hd.out.hot.slice;exact⟨p,c,_,rfl,e⟩
       have HO9:Hid (∀b,(Value.slice p9 N c9).ownBlock=some b→b<wr.heap.size):=fun b hb=>(World.ownsRow.lt hd.out.hot.own b hb).2
       have HO10:Hid (∀b,v10.ownBlock=some b→b<wr.heap.size):=fun b hb=>(World.ownsRow.lt hd.out.exc b hb).2
       have HWZ:Hid (w.heap.size≤wr.heap.size):=hd.out.size
       obtain⟨z2,hz2⟩:∃z,nextV r5 6=z:=⟨_,rfl⟩
       have HZ2:=Lib.hid hz2
       have HN:=Lib.hid hN
       clear hz2 hN
       go_wp2_with fail
       refine(next_at gs r5 6 z2 _ hst3.out.src (by omega) (by omega) HZ2).mono ?_
       rintro e w6 ⟨rfl,hs6,hg6⟩
       have HS6:=Lib.hid (hst3.out.step (next_keeps hg6) hs6)
       have HD6:=Lib.hid (hd.out.step HS6.out.keep HS6.out.src)
       have hNl:N≤5:=by have h1:=hok.out.len;rw[List.length_map]at h1;have:=HN.out;omega
       have b9:w6.cell? ⟨g,9,none⟩=some (.slice p9 N c9):=by have:=(HD6.out.box 9 (by omega)).1;rwa[upd_other _ _ (by omega),upd_same]at this
       clear hs6 hg6 hst3 hd
       go_wp2
       clear b9
       go_loopw [6,58] (fun tw iv wx=>∃(j:Nat) (B:Bool),j≤N∧tw = .bool B∧iv = .int .i64 j∧Hid (B=false→∀d∈(Q.take j).map (·.1),d.2≠tl)∧Hid (MSt wr.heap.size wr wx gs mb (7680+k) (.slice pu tl.length cu) tl r5.tail)∧Hid (DSt w wx gs g f (.slice p9 N c9) v10 Q E r5.tail)) (fun _ iv _=>N-(intOf iv).toNat)
       case atStart=>exact⟨0,z2==0,by omega,rfl,rfl,by intro _ d hd;simp at hd,HS6,HD6⟩
       case round =>
        obtain⟨j,B1,hj,rfl,rfl,hne,hms,hds⟩:=hrel
        by_cases hjN:j<N
        ·obtain⟨b9,cap9,q,e9,hq,hqm,_,hc1,hc2⟩:=hds.out.hot.cells j (by rw[HN.out];exact hjN)
         injection e9 with e9 e9b e9c
         clear e9b e9c
         subst e9
         obtain⟨⟨fq,tq⟩,uq⟩:=q
         have htos:=hds.out.hot.tos _ hqm
         simp only at hc1 hc2 htos
         obtain⟨⟨pq,cq,hu2,hinq,hlq⟩,_⟩:=htos
         subst hu2
         have htk:Hid ((Q.take (j+1)).map (·.1)=(Q.take j).map (·.1)++[(fq,tq)]):=by
          unfold Hid
          rw[List.take_add_one,hq];simp
         obtain⟨p0,c0,e0,hin0⟩:=hms.out.own.inn
         injection e0 with e0 _ e1
         subst e0 e1
         have x1:=hms.out.c1
         have hmb:=hms.out.lt
         have hbl:Below wr.heap.size wr (wr.alloc (.cells #[.int .i64 fq,.slice pq tq.length cq] 73)):=(Below.refl _ _).alloc (Nat.le_refl _) _
         have x2:(wr.alloc (.cells #[.int .i64 fq,.slice pq tq.length cq] 73)).cell? ⟨mb,1,none⟩=some (.slice pu tl.length cu):=(Keeps.alloc _ _).cell x1 (fun e=>e)
         have HMS:=Lib.hid (hms.out.step ((Keeps.of_below hbl).weak (fun b hb e=>by omega)) (hms.out.src.below hbl))
         have HDS:=Lib.hid (hds.out.below hbl)
         have HSAME:=Lib.hid (same_any pq pu cq cu tq tl _ (hinq.below hbl) (hin0.below hbl) (by unfold maxLen;omega) (by have:=hto.out;obtain⟨_,_,h|⟨_,_,h⟩⟩:=this<;>rw[h]<;>simp[maxLen]))
         have HJ1:Hid (Q.length=N):=HN
         clear hms hds x1 hbl hinq hin0 hlq hq hqm
         cases B1 with
         | true =>
          go_wp2
          go_roundw
          case rel=>exact⟨j+1,true,by omega,rfl,by go_num,by first|exact fun e=>absurd e (by simp)|exact trivial,HMS,HDS⟩
          case measure=>simp[intOf];omega
         | false =>
          go_wp2_with fail
          refine HSAME.out.mono ?_
          rintro e w7 ⟨rfl,hb7⟩
          have HMS7:=Lib.hid (HMS.out.step ((Keeps.of_below hb7).weak (fun b hb e=>by omega)) (HMS.out.src.below hb7))
          have HDS7:=Lib.hid (HDS.out.below hb7)
          have HN7:Hid ((tq==tl)=false→∀d∈(Q.take (j+1)).map (·.1),d.2≠tl):=by
           intro e d hd
           rw[htk.out]at hd
           rcases List.mem_append.1 hd with hd|hd
           ·exact hne.out (by first|rfl|trivial) d hd
           ·rw[List.mem_singleton]at hd;subst hd;simpa using e
          clear hb7 hne htk
          go_wp2
          go_roundw
          case rel =>
           exact⟨j+1,tq==tl,by omega,by go_num,by go_num,HN7,HMS7,HDS7⟩
          case measure=>simp[intOf];omega
        ·obtain rfl:j=N:=by omega
         have HFIN:Hid (B1=false→∀d∈Q.map (·.1),d.2≠tl):=by
          have:=hne.out
          rwa[List.take_of_length_le (Nat.le_of_eq HN.out)]at this
         clear hne
         have hb1:=HWZ.out
         have HTO:=Lib.hid ((hms.out.inO (by have:=hto.out;obtain⟨_,_,h|⟨_,_,h⟩⟩:=this<;>rw[h]<;>simp)).weak (Q:=fun b=>w.heap.size≤b∧(Value.slice p9 j c9).ownBlock≠some b∧v10.ownBlock≠some b) (fun b _ hb=>⟨by omega,fun e=>by have:=HO9.out b e;omega,fun e=>by have:=HO10.out b e;omega⟩))
         clear hb1
         go_upto_if 71 with(fail)
         go_cut [5] (fun v wx=>∃(v10':Value),v = .pointer (some ⟨mb,0,none⟩)∧Hid (wx.cell? ⟨mb,0,none⟩=some (.int .i64 (7680+k)))∧Hid (wx.cell? ⟨mb,1,none⟩=some (.slice pu tl.length cu))∧Hid (InO wx (fun b=>w.heap.size≤b∧(Value.slice p9 j c9).ownBlock≠some b∧v10'.ownBlock≠some b) (.slice pu tl.length cu) tl)∧Hid (DSt w wx gs g f (.slice p9 j c9) v10' Q (if B1 then E++[7680+(k:Int)]else E) r5.tail))
         case first =>
          cases B1 with
          | false =>
           go_wp2_with fail
           go_meet
           exact⟨v10,rfl,hms.out.c0,hms.out.c1,HTO.out,hds.out⟩
          | true =>
           have hEl:E.length≤1000:=by have:=hok.out.elen;omega
           have x10:wr.cell? ⟨g,10,none⟩=some v10:=by have:=(hds.out.box 10 (by omega)).1;rwa[upd_same]at this
           have x11:∀o,(wr.alloc o).cell? ⟨g,10,none⟩=some v10:=fun o=>(Keeps.alloc wr o).cell x10 (fun e=>e)
           have x0:=hms.out.c0
           have HN10:Hid (¬(v10.ownBlock=some mb∨mb=g)):=by
            rintro (e|e)
            ·have:=HO10.out mb e;have:=hms.out.ord;omega
            ·have h1:=hds.out.ord;have h2:=hms.out.ord;have h3:=HWZ.out;omega
           have HEa:=Lib.hid (hds.out.exc.alloc (.cells #[.int .i64 (7680+(k:Int))] 3))
           go_upto_region 16 with(fail)
           go_region_law
            (refine step_append_one (by rfl) _ _ (by rfl) w.heap.size v10 E (by rfl) (by exact HEa.out) _ 1 (7680+k) (by rfl) (by simp[World.cell?_alloc_new]) hEl (by have:=hds.out.size;simp;omega) ?_
             intro v8 w8 ho8 hg8 hv8
             obtain⟨p8,n8,q8,rfl⟩:∃p n q,v8 = .slice p n q:=by obtain⟨p,c,e,_⟩:=ho8.inn;exact⟨p,_,c,e⟩
             have hm8:=Lib.hid (hds.out.addE ho8 hg8 hv8 ((Below.refl wr.heap.size wr).alloc (Nat.le_refl _) _).drew)
             have y8:=hm8.out.2.1
             have z8:=hm8.out.2.2.1)
           all_goals
            clear ho8 hg8 hv8
            go_wp2_with fail
            go_meet
            exact⟨_,rfl,hm8.out.2.2.2.1.cell hms.out.c0 HN10.out,hm8.out.2.2.2.1.cell hms.out.c1 HN10.out,hm8.out.2.2.2.2 _ _ HTO.out,hm8.out.1⟩
         case rest =>
          obtain⟨v10',rfl,hc0,hc1,hto2,hds2⟩:=hcut
          clear hds hms HTO
          have x0:=hc0.out
          have x1:=hc1.out
          have x9:wc.cell? ⟨g,9,none⟩=some (.slice p9 j c9):=by have:=(hds2.out.box 9 (by omega)).1;rwa[upd_other _ _ (by omega),upd_same]at this
          have x91:∀o,(wc.alloc o).cell? ⟨g,9,none⟩=some (.slice p9 j c9):=fun o=>(Keeps.alloc wc o).cell x9 (fun e=>e)
          have HQa:=Lib.hid (World.ownsRow.alloc hds2.out.hot.own (.cells #[.int .i64 (7680+(k:Int)),.slice pu tl.length cu] 73))
          go_upto_region 17 with(fail)
          go_region_law
           (refine step_append_map (by rfl) _ _ (by rfl) w.heap.size (.slice p9 j c9) Q (by rfl) (by exact HQa.out) _ 1 ((7680+(k:Int),tl),.slice pu tl.length cu) (by rfl) (by simp[World.cell?_alloc_new]) (by simp[World.cell?_alloc_new]) rfl (by have:=HN.out;omega) (by have:=hds2.out.size;simp;omega) ?_
            intro v8 w8 ho8 hg8 hv8
            obtain⟨p8,n8,q8,rfl⟩:=row_slice ho8
            have hm8:=Lib.hid (hds2.out.addQ hto2.out ho8 hg8 hv8 ((Below.refl wc.heap.size wc).alloc (Nat.le_refl _) _).drew)
            have y8:=hm8.out.2.1
            have z8:=hm8.out.2.2)
          all_goals
           have HOK:Hid (DecOk (k+1) ((Q++[((7680+(k:Int),tl),Value.slice pu tl.length cu)]).map (·.1)) (if B1 then E++[7680+(k:Int)]else E)):=by
            have:=hok.out.snoc hk5 hto.out HFIN.out
            unfold Hid
            rw[List.map_append]
            exact this
           clear ho8 hg8 hv8
           go_wp2
           go_roundw
           case rel =>
            exact⟨k+1,_,_,_,_,_,by omega,by go_num,hm8.out.1,HOK⟩
           case measure=>simp[intOf];omega
  ·obtain rfl:k=5:=by omega
   go_wp2
   go_end0
   exact hd.out.done hok.out
end Go.Proofs.YtblcoicaeeiojaaGreatDoor
