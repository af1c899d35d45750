/-
  keep.prototypes: what is kept.
  keep.prototypes: the walk.
-/
import Derived.Test.YtblcoicaeeiojaaGreatDoorSSiTblF
import Derived.Test.YtblcoicaeeiojaaGreatDoorSSiPmBidFact
import Derived.Deep.RegionLaw
set_option linter.unusedSimpArgs false
set_option linter.unusedVariables false
namespace Go.Proofs.YtblcoicaeeiojaaGreatDoor
open Go.RowKit
set_option maxHeartbeats 2000000 in
theorem rign_x (x : TV) (I : List Sp) (c : Int) (B : Bool) (w : World) (hx : SpV w x.a6 I) (hv : valOk 1 1 I = true) (hz : Hid ((val I c).isSome = B)) :
  Calls Tryz.prog 65 #[x.agg,.int .i64 c] w (Gives (.bool B) w):=by
 have hbl:=(Below.refl w.heap.size w).alloc (Nat.le_refl _) (.cells (tabCells x) 26)
 have HB0:=Lib.hid hbl
 have HX:=Lib.hid (hx.below hbl)
 have k:=(BoxT.new w x 26).2.1
 obtain⟨z,hzz⟩:∃z,Hid ((val I c).getD 0=z):=⟨_,rfl⟩
 have HB1:Hid ((z==1)=B):=by
  unfold Hid
  rw[←hzz.out,←hz.out]
  cases hval:val I c with
  | none=>rfl
  | some v =>
   obtain⟨s,hs,_,_,h3⟩:=val_mem hval
   have:=List.all_eq_true.1 hv s hs
   simp only[Bool.and_eq_true,decide_eq_true_eq]at this
   have:v=1:=by omega
   subst this;rfl
 clear hx hv hbl
 simp only[TV.agg]
 go_enter Tryz.func65,Tryz.ntmps65
 go_wp2_with fail
 refine(rvalue_sp x.a6 I c z _ HX.out hzz).mono ?_
 rintro e w1 ⟨rfl,hb⟩
 have HB:=Lib.hid (HB0.out.trans (hb.mono HB0.out.size))
 clear hb k
 go_wp2
 go_ret
 exact⟨by rw[HB1.out];rfl,HB.out⟩
structure RSt (wE w0 w:World) (gs g lb:Nat) (f:Nat→Value) (v11:Value) (Q:List Mq) (I:List Sp) (r:List Int):Prop where
 src:Src w gs r
 box:BoxF w g (upd f 11 v11)
 hot:Hot w w0.heap.size (fun b=>wE.heap.size≤b∧v11.ownBlock≠some b) v11 Q
 lits:MpO w (fun b=>wE.heap.size≤b∧b<w0.heap.size) (.slice (some ⟨lb,0,none⟩) 5 5) protoL
 ig:SpO w (fun b=>b<wE.heap.size∧b≠gs∧b≠g) (f 6) I
 keep:Keeps w0 w (fun b=>b=gs∨b=g)
 ord:gs<g∧g<wE.heap.size∧wE.heap.size≤w0.heap.size
section
variable {wE w0 w w1 w':World} {gs g lb:Nat} {f:Nat→Value} {v11:Value} {Q:List Mq} {I:List Sp} {r r':List Int}
theorem RSt.size (h:RSt wE w0 w gs g lb f v11 Q I r):w0.heap.size≤w.heap.size:=h.keep.size
theorem RSt.own (h:RSt wE w0 w gs g lb f v11 Q I r):∀b,v11.ownBlock=some b→w0.heap.size≤b∧b<w.heap.size:=fun b hb=>World.ownsRow.lt h.hot.own b hb
theorem RSt.step (h:RSt wE w0 w gs g lb f v11 Q I r) (hk:Keeps w w' (fun b=>b=gs)) (hs:Src w' gs r'):RSt wE w0 w' gs g lb f v11 Q I r':=by
 obtain⟨o1,o2,o3⟩:=h.ord
 have h8:=h.own
 exact⟨hs,h.box.keeps hk (by omega),h.hot.keeps hk (fun b hb e=>by have:=h8 b hb;omega) (fun b hb e hh=>by omega),h.lits.keeps hk (fun b hb e hh=>by omega),h.ig.keeps hk (fun b hb e hh=>hh.2.1 e),h.keep.trans hk (fun _ _ e=>e) (fun _ _ e => .inl e),h.ord⟩
theorem RSt.below (h:RSt wE w0 w gs g lb f v11 Q I r) (hb:Below w.heap.size w w'):RSt wE w0 w' gs g lb f v11 Q I r :=
 h.step ((Keeps.of_below hb).weak (fun b hb e=>by omega)) (h.src.below hb)
theorem RSt.addQ {v : Value} {q : Mq} (h : RSt wE w0 w gs g lb f v11 Q I r) (hq : InO w (fun b => wE.heap.size ≤ b ∧ v11.ownBlock ≠ some b) q.2 q.1.2) (ho : w'.ownsRow w0.heap.size 73 2 v (Q ++ [q]).length (cellsQ (Q ++ [q])))
  (hg:w1.grownBy w' v11.ownBlock) (hv:v.ownBlock=v11.ownBlock∨v.ownBlock=some w1.heap.size) (hb:Below w.heap.size w w1) :
  RSt wE w0 (w'.setCell ⟨g,11,none⟩ v) gs g lb f v (Q++[q]) I r∧w'.cell? ⟨g,11,none⟩=some v11∧w'.frozen? ⟨g,11,none⟩=false:=by
 obtain⟨o1,o2,o3⟩:=h.ord
 have hz:=hb.size
 have hz0:=h.size
 have h8:=h.own
 have hk1:Keeps w w' (fun b=>v11.ownBlock=some b):=(Keeps.of_below hb).trans (Keeps.of_grown hg) (fun b hb e=>by omega) (fun _ _ e=>e)
 have hk2:=Keeps.store w' g 11 v
 have hk3:Keeps w (w'.setCell ⟨g,11,none⟩ v) (fun b=>v11.ownBlock=some b∨b=g):=hk1.trans hk2 (fun _ _ e => .inl e) (fun _ _ e => .inr e)
 have hg8:¬v11.ownBlock=some g:=fun e=>by have:=h8 g e;omega
 have hbx:=h.box.keeps hk1 hg8
 have hnew:∀b,b<w.heap.size→v11.ownBlock≠some b→v.ownBlock≠some b:=by
  intro b hb hn e
  rcases hv with hv|hv
  ·exact hn (by rw[←hv,e])
  ·rw[hv]at e;injection e with e;omega
 have hgv:v.ownBlock≠some g:=hnew g (by omega) hg8
 have c8:w'.cell? ⟨g,11,none⟩=some v11:=by have:=(hbx 11 (by omega)).1;rwa[upd_same]at this
 have hR:∀b,b<w0.heap.size→b≠g→¬(v11.ownBlock=some b∨b=g):=by
  rintro b hb hne (e|e)
  ·have:=h8 b e;omega
  ·exact hne e
 have key:∀u l,InO w (fun b=>wE.heap.size≤b∧v11.ownBlock≠some b) u l→InO (w'.setCell ⟨g,11,none⟩ v) (fun b=>wE.heap.size≤b∧v.ownBlock≠some b) u l:=by
  intro u l hu
  have h1:=hu.weak (Q:=fun b=>(wE.heap.size≤b∧v11.ownBlock≠some b)∧b<w.heap.size) (fun b hb e=>⟨e,hb⟩)
  have h2:=h1.keeps hk3 (fun b hb e hh=>by
   rcases e with e|e
   ·exact hh.1.2 e
   ·have:=hh.1.1;omega)
  exact h2.weak (fun b hb e=>⟨e.1.1,hnew b e.2 e.1.2⟩)
 refine⟨⟨h.src.keeps hk3 (fun b hb e=>hR b (by omega) (by omega) e),?_,⟨hk2.owns ho (fun b hb e=>hgv (by rw[hb,e])),?_⟩,h.lits.keeps hk3 (fun b hb e hh=>hR b hh.2 (by have:=hh.1;omega) e),h.ig.keeps hk3 (fun b hb e hh=>hR b (by have:=hh.1;omega) hh.2.2 e),h.keep.trans hk3 (fun _ _ e=>e) (fun b hb e=>?_),h.ord⟩,c8,(hbx 11 (by omega)).2⟩
 ·have:=hbx.sets (Sets.store w' g 11 v _ c8)
  rwa[upd_upd]at this
 ·intro x hx
  rcases List.mem_append.1 hx with hx|hx
  ·exact key _ _ (h.hot.tos x hx)
  ·rw[List.mem_singleton]at hx;subst hx;exact key _ _ hq
 ·rcases e with e|e
  ·have:=h8 b e;omega
  ·exact .inr e
theorem RSt.lit (h : RSt wE w0 w gs g lb f v11 Q I r) (k : Nat) (hk : k < 5) : ∃ ub uo m cu fk tk, protoL.getD k (0, []) = (fk, tk) ∧ tk.length = m + 1 ∧ tk.getLastD 0 = tk.getD m 0 ∧ w.cell? ⟨lb, k * 2, none⟩ = some (.int .i64 fk) ∧ w.cell? ⟨lb, k * 2 + 1, none⟩ = some (.slice (some ⟨ub, uo, none⟩) (m + 1) cu) ∧
  IntsIn w (some ⟨ub,uo,none⟩) tk∧wE.heap.size≤ub∧ub<w0.heap.size:=by
 obtain⟨p,c,e,_,_,h3⟩:=h.lits
 obtain⟨b,off,u,e2,c1,c2,⟨pu,cu,rfl,hin,_⟩,c4⟩:=h3 k hk
 cases e2
 cases e
 obtain⟨⟨fk,tk⟩,hft⟩:∃s,protoL.getD k mp0=s:=⟨_,rfl⟩
 rw[hft]at c1 c2 hin c4
 have hne:tk≠[]:=by
  have:=(proto_from _ (proto_at k hk).1).2.2.1
  intro e;rw[show protoL.getD k (0,[])=(fk,tk)from hft,e]at this;simp at this
 obtain⟨m,hm⟩:∃m,tk.length=m+1:=⟨tk.length-1,by have:=List.length_pos_iff.2 hne;omega⟩
 obtain⟨ub,uo,rfl,_⟩:=hin 0 (by simp only;omega)
 simp only[hm]at c2 c4
 have:=c4 ub uo _ _ rfl
 refine⟨ub,uo,m,cu,fk,tk,hft,hm,?_,by simpa using c1,by simpa using c2,hin,this.1.1,this.1.2⟩
 rw[List.getLastD_eq_getLast?,List.getLast?_eq_getElem?,hm]
 rfl
end
abbrev lit5 (w:World):World :=
 ((((w.alloc (.cells #[.int .i64 111] 3)).alloc (.cells #[.int .i64 114,.int .i64 110] 3)).alloc (.cells #[.int .i64 97] 3)).alloc (.cells #[.int .i64 97] 3)).alloc (.cells #[.int .i64 111,.int .i64 803] 3)
abbrev litC (w:World):Array Value:=#[.int .i64 48,.slice (some ⟨w.heap.size,0,none⟩) 1 1,.int .i64 109,.slice (some ⟨w.heap.size+1,0,none⟩) 2 2,.int .i64 945,.slice (some ⟨w.heap.size+2,0,none⟩) 1 1,.int .i64 1072,.slice (some ⟨w.heap.size+3,0,none⟩) 1 1,.int .i64 1632,.slice (some ⟨w.heap.size+4,0,none⟩) 2 2]
abbrev litW (w:World):World:=(lit5 w).alloc (.cells (litC w) 73)
theorem lit5_size (w:World):(lit5 w).heap.size=w.heap.size+5:=by simp
theorem litW_size (w:World):(litW w).heap.size=w.heap.size+6:=by simp
theorem litW_below (w:World):Below w.heap.size w (litW w) :=
 ((((((Below.refl _ _).alloc (Nat.le_refl _) _).alloc (by simp) _).alloc (by simp;omega) _).alloc (by simp;omega) _).alloc (by simp;omega) _).alloc (by simp;omega) _
theorem litW_cell (w:World) (j:Nat):(litW w).cell? ⟨w.heap.size+5,j,none⟩=(litC w)[j]? := by
 rw[←lit5_size w]
 simp only[World.cell?]
 rw[heap_alloc_new]
 rfl
theorem ints_below {w w':World} {b:Nat} {l:List Int} {n:Nat} (h:IntsIn w (some ⟨b,0,none⟩) l) (hn:b=n) (hb:Below w.heap.size w w'):IntsIn w' (some ⟨n,0,none⟩) l:=by subst hn;exact h.below hb
theorem litW_row (w:World):IntsIn (litW w) (some ⟨w.heap.size,0,none⟩) [111]∧IntsIn (litW w) (some ⟨w.heap.size+1,0,none⟩) [114,110]∧IntsIn (litW w) (some ⟨w.heap.size+2,0,none⟩) [97]∧IntsIn (litW w) (some ⟨w.heap.size+3,0,none⟩) [97]∧IntsIn (litW w) (some ⟨w.heap.size+4,0,none⟩) [111,803]:=by
 refine⟨?_,?_,?_,?_,?_⟩
 ·exact ints_below (lit_ints w #[.int .i64 111] [111] 3 rfl) rfl ((((((Below.refl _ _).alloc (Nat.le_refl _) _).alloc (by simp) _).alloc (by simp<;>omega) _).alloc (by simp<;>omega) _).alloc (by simp<;>omega) _)
 ·exact ints_below (lit_ints (w.alloc (.cells #[.int .i64 111] 3)) #[.int .i64 114,.int .i64 110] [114,110] 3 rfl) (by simp) (((((Below.refl _ _).alloc (Nat.le_refl _) _).alloc (by simp) _).alloc (by simp<;>omega) _).alloc (by simp<;>omega) _)
 ·exact ints_below (lit_ints ((w.alloc (.cells #[.int .i64 111] 3)).alloc (.cells #[.int .i64 114,.int .i64 110] 3)) #[.int .i64 97] [97] 3 rfl) (by simp) ((((Below.refl _ _).alloc (Nat.le_refl _) _).alloc (by simp) _).alloc (by simp<;>omega) _)
 ·exact ints_below (lit_ints (((w.alloc (.cells #[.int .i64 111] 3)).alloc (.cells #[.int .i64 114,.int .i64 110] 3)).alloc (.cells #[.int .i64 97] 3)) #[.int .i64 97] [97] 3 rfl) (by simp) (((Below.refl _ _).alloc (Nat.le_refl _) _).alloc (by simp) _)
 ·exact ints_below (lit_ints ((((w.alloc (.cells #[.int .i64 111] 3)).alloc (.cells #[.int .i64 114,.int .i64 110] 3)).alloc (.cells #[.int .i64 97] 3)).alloc (.cells #[.int .i64 97] 3)) #[.int .i64 111,.int .i64 803] [111,803] 3 rfl) (by simp) ((Below.refl _ _).alloc (Nat.le_refl _) _)
theorem litW_mp (w:World):MpO (litW w) (fun b=>w.heap.size≤b∧b<(litW w).heap.size) (.slice (some ⟨w.heap.size+5,0,none⟩) 5 5) protoL:=by
 have hz:=litW_size w
 obtain⟨g0,g1,g2,g3,g4⟩:=litW_row w
 refine⟨_,_,rfl,fun b off n c e=>by cases e;omega,by decide,fun k hk=>?_⟩
 have hk5:k<5:=hk
 have:k=0∨k=1∨k=2∨k=3∨k=4:=by omega
 rcases this with rfl|rfl|rfl|rfl|rfl
 ·exact⟨_,_,_,rfl,(litW_cell w 0).trans rfl,(litW_cell w 1).trans rfl,⟨_,_,rfl,g0,by decide⟩,fun b off n c e=>by cases e;omega⟩
 ·exact⟨_,_,_,rfl,(litW_cell w 2).trans rfl,(litW_cell w 3).trans rfl,⟨_,_,rfl,g1,by decide⟩,fun b off n c e=>by cases e;omega⟩
 ·exact⟨_,_,_,rfl,(litW_cell w 4).trans rfl,(litW_cell w 5).trans rfl,⟨_,_,rfl,g2,by decide⟩,fun b off n c e=>by cases e;omega⟩
 ·exact⟨_,_,_,rfl,(litW_cell w 6).trans rfl,(litW_cell w 7).trans rfl,⟨_,_,rfl,g3,by decide⟩,fun b off n c e=>by cases e;omega⟩
 ·exact⟨_,_,_,rfl,(litW_cell w 8).trans rfl,(litW_cell w 9).trans rfl,⟨_,_,rfl,g4,by decide⟩,fun b off n c e=>by cases e;omega⟩
end Go.Proofs.YtblcoicaeeiojaaGreatDoor
namespace Go.Proofs.YtblcoicaeeiojaaGreatDoor
open Go.RowKit
def ProtoPost (gs g:Nat) (f:Nat→Value) (I:List Sp) (w:World) (e:Ending) (w':World):Prop :=
 e = .returned (.tuple #[])∧∃r v11 P,ProOk 5 I P∧Src w' gs r∧BoxF w' g (upd f 11 v11)∧MpO w' (fun b=>w.heap.size≤b) v11 P∧Keeps w w' (fun b=>b=gs∨b=g)
theorem RSt.done {w w1 w2:World} {gs g lb:Nat} {f:Nat→Value} {v11:Value} {Q:List Mq} {I:List Sp} {r:List Int} (hb:Below w.heap.size w w1) (h:RSt w w1 w2 gs g lb f v11 Q I r) (hok:ProOk 5 I (Q.map (·.1))):ProtoPost gs g f I w (.returned (.tuple #[])) w2:=by
 have h1:=hok.len
 have hz:=hb.size
 refine⟨rfl,r,v11,_,hok,h.src,h.box,h.hot.mpO (by simp at h1;omega) (fun b _ hb=>hb.1) (fun b hb _=>by omega),(Keeps.of_below hb).trans h.keep (fun b hb e=>by omega) (fun _ _ e=>e)⟩
theorem RSt.x {w w1 w2:World} {gs g lb:Nat} {f:Nat→Value} {v11:Value} {Q:List Mq} {I:List Sp} {r:List Int} {x:TV} (h:RSt w w1 w2 gs g lb f v11 Q I r) (hx:xOf (upd f 11 v11)=x):BoxT w2 g x∧SpV w2 x.a6 I:=by
 subst hx;exact⟨h.box.box,h.ig.1⟩
def Elt (w:World) (mb ub uo m:Nat) (fk L:Int) (u:Value):Prop:=w.cell? ⟨mb,0,none⟩=some (.int .i64 fk)∧w.cell? ⟨mb,1,none⟩=some u∧w.cell? ⟨ub,uo+m,none⟩=some (.int .i64 L)
theorem Elt.keeps {w w':World} {R:Nat→Prop} {mb ub uo m:Nat} {fk L:Int} {u:Value} (h:Elt w mb ub uo m fk L u) (hk:Keeps w w' R) (h1:¬R mb) (h2:¬R ub):Elt w' mb ub uo m fk L u:=⟨hk.cell h.1 h1,hk.cell h.2.1 h1,hk.cell h.2.2 h2⟩
theorem Elt.below {w w':World} {mb ub uo m:Nat} {fk L:Int} {u:Value} (h:Elt w mb ub uo m fk L u) (hb:Below w.heap.size w w'):Elt w' mb ub uo m fk L u :=
 ⟨(hb.cell (p:=⟨mb,0,none⟩) (World.block_lt_of_cell? w _ h.1)).trans h.1,(hb.cell (p:=⟨mb,1,none⟩) (World.block_lt_of_cell? w _ h.2.1)).trans h.2.1,(hb.cell (p:=⟨ub,uo+m,none⟩) (World.block_lt_of_cell? w _ h.2.2)).trans h.2.2⟩
set_option maxRecDepth 100000 in
set_option maxHeartbeats 8000000 in
theorem prototypes_any (gs g : Nat) (f : Nat → Value) (I : List Sp) (r0 : List Int) (w : World) (hs : Src w gs r0) (hb : BoxF w g f) (h11 : f 11 = .slice none 0 0) (hig : SpO w (fun b => b ≠ gs ∧ b ≠ g) (f 6) I) (hv : valOk 1 1 I = true) (ho : gs < g) :
  Calls Tryz.prog 37 #[.pointer (some ⟨gs,0,none⟩),.pointer (some ⟨g,0,none⟩)] w (ProtoPost gs g f I w):=by
 have hlt:=hb.lt
 have hbl:=litW_below w
 have HBL:=Lib.hid hbl
 have HD:Hid (RSt w (litW w) (litW w) gs g (w.heap.size+5) f (.slice none 0 0) [] I r0) :=
  ⟨hs.below hbl,by rw[upd_self _ _ _ h11];exact hb.below hbl,Hot.nil _ _ _,litW_mp w,((hig.weak (fun b hb e=>⟨hb,e.1,e.2⟩)).keeps (Keeps.of_below hbl) (fun k hk e _=>by omega)),Keeps.refl _ _,⟨ho,hlt,hbl.size⟩⟩
 have HV:=Lib.hid hv
 clear hs hb h11 hig hv hbl ho
 obtain⟨W,hW⟩:∃W,W=litW w:=⟨_,rfl⟩
 rw[←hW]at HD HBL
 simp only[litW,lit5,litC]at hW
 go_enter Tryz.func37,Tryz.ntmps37
 go_wp2
 rw[←hW]
 clear hW
 generalize w.heap.size+5=lb at HD ⊢
 go_loopw [18] (fun iv wr=>∃(k:Nat) (v11:Value) (Q:List Mq) (r:List Int),k≤5∧iv = .int .i64 k∧Hid (RSt w W wr gs g lb f v11 Q I r)∧Hid (ProOk k I (Q.map (·.1)))) (fun iv _=>5-(intOf iv).toNat)
 case atStart=>exact⟨0,_,_,r0,by omega,rfl,HD,ProOk.nil I⟩
 case round =>
  obtain⟨k,v11,Q,r,hk,rfl,hd,hok⟩:=hrel
  clear HD
  by_cases hk5:k<5
  ·have hki:(k:Int)<5:=by omega
   obtain⟨ub,uo,m,cu,fk,tk,hft,hlen,hlast,c0,c1,hin,hub0,hub1⟩:=hd.out.lit k hk5
   obtain⟨L,hL⟩:∃L,tk.getD m 0=L:=⟨_,rfl⟩
   have hel:wr.cell? ⟨ub,uo+m,none⟩=some (.int .i64 L):=by
    obtain⟨b',off',e,hc⟩:=hin m (by omega)
    cases e
    rw[hL]at hc;exact hc
   have HIN:Hid (InO wr (fun b=>w.heap.size≤b∧v11.ownBlock≠some b) (.slice (some ⟨ub,uo,none⟩) (m+1) cu) tk):=by
    refine⟨⟨_,_,by rw[hlen],hin,by have:=(proto_from _ (proto_at k hk5).1).2.2.2;rw[hft]at this;simp only at this;omega⟩,fun b off n c e=>?_⟩
    cases e
    refine⟨⟨hub0,fun e=>?_⟩,?_⟩
    ·have:=hd.out.own ub e;omega
    ·have:=hd.out.size;omega
   have HOK1:Hid (ProOk (k+1) I (Q.map (·.1))):=hok.out.skip hk5
   have HOK2:Hid ((val I fk).isSome=false→(val I L).isSome=false→ProOk (k+1) I ((Q++[((fk,tk),Value.slice (some ⟨ub,uo,none⟩) (m+1) cu)]).map (·.1))):=by
    intro h1 h2
    have:=hok.out.snoc hk5 (by rw[hft];exact h1) (by rw[hft];simp only;rw[hlast,hL];exact h2)
    rw[List.map_append]
    rw[hft]at this
    exact this
   have HQl:Hid (Q.length≤1000):=by have h1:=hok.out.len;rw[List.length_map]at h1;unfold Hid;omega
   have hm1:m≤1:=by have:=(proto_from _ (proto_at k hk5).1).2.2.2;rw[hft]at this;simp only at this;omega
   have HUB:Hid (w.heap.size≤ub∧ub<wr.heap.size):=⟨hub0,by have:=hd.out.size;omega⟩
   clear hok hft hlast hL hin hlen
   have hbl:=(Below.refl wr.heap.size wr).alloc (Nat.le_refl _) (.cells #[.int .i64 fk,.slice (some ⟨ub,uo,none⟩) (m+1) cu] 73)
   have HR3:=Lib.hid (hd.out.below hbl)
   have HIN3:=Lib.hid (HIN.out.keeps (Keeps.of_below hbl) (fun k hk e _=>by omega))
   have HE3:Hid (Elt (wr.alloc (.cells #[.int .i64 fk,.slice (some ⟨ub,uo,none⟩) (m+1) cu] 73)) wr.heap.size ub uo m fk L (.slice (some ⟨ub,uo,none⟩) (m+1) cu)) :=
    ⟨by simp[World.cell?_alloc_new],by simp[World.cell?_alloc_new],(Keeps.alloc wr _).cell hel (fun e=>e)⟩
   have hgs:gs<w.heap.size∧w.heap.size≤wr.heap.size:=⟨by have:=hd.out.ord;omega,by have:=hd.out.ord;have:=hd.out.size;omega⟩
   go_upto_region 3 with(fail)
   clear c0 c1 hel hbl
   generalize (wr.alloc (.cells #[.int .i64 fk,.slice (some ⟨ub,uo,none⟩) (m+1) cu] 73))=W3 at HR3 HIN3 HE3 ⊢
   have HMB:Hid (w.heap.size≤wr.heap.size):=hgs.2
   have HGS:Hid (gs<w.heap.size):=hgs.1
   generalize wr.heap.size=mb at HE3 HMB HUB ⊢
   clear hd HIN hgs hub0 hub1
   go_cut [46] (fun c wx=>∃(B:Bool) (r':List Int),c = .bool B∧Hid (B=false→(val I fk).isSome=false∧(val I L).isSome=false)∧Hid (RSt w W wx gs g lb f v11 Q I r')∧Hid (Elt wx mb ub uo m fk L (.slice (some ⟨ub,uo,none⟩) (m+1) cu))∧Hid (InO wx (fun b=>w.heap.size≤b∧v11.ownBlock≠some b) (.slice (some ⟨ub,uo,none⟩) (m+1) cu) tk))
   case first =>
    obtain⟨x,hx⟩:∃x,xOf (upd f 11 v11)=x:=⟨_,rfl⟩
    have HXX:=Lib.hid hx
    clear hx
    obtain⟨z,hz⟩:∃z,nextV r 3=z:=⟨_,rfl⟩
    have HZ:=Lib.hid hz
    clear hz
    obtain⟨B1,hB1⟩:∃B1,Hid ((val I fk).isSome=B1):=⟨_,rfl⟩
    obtain⟨B2,hB2⟩:∃B2,Hid ((val I L).isSome=B2):=⟨_,rfl⟩
    have wr1:IntKind.i64.wrap ((m:Int)+1-1)=m:=by rw[IntWalk.i64_in _ (by omega)];omega
    have wr2:IntKind.i64.wrap (m:Int)=m:=IntWalk.i64_in _ (by omega)
    refine wp_region_any (by kernel_rfl) ?_
    refine wpAny_ready (rs:=[0]) (by kernel_rfl) (by simp) ?_
    refine AllReady.cons rfl (fun K hK=>?_) AllReady.nil
    go_simp
    refine hK _ _ ?_
    clear hK K
    refine wpAny_ready (rs:=[1]) (by kernel_rfl) (by simp) ?_
    refine AllReady.cons rfl (fun K hK=>?_) AllReady.nil
    go_simp
    go_at_call 30
    refine(next_at gs r 3 z _ HR3.out.src.drew (by omega) (by omega) HZ).mono ?_
    rintro e w4 ⟨rfl,hs4,hg4⟩
    have hk4:=(next_keeps hg4).undrewg
    have HR4:=Lib.hid (HR3.out.step hk4 hs4)
    have HE4:=Lib.hid (HE3.out.keeps hk4 (by have:=HMB.out;have:=HGS.out;omega) (by have:=HUB.out;have:=HGS.out;omega))
    have HI4:=Lib.hid (HIN3.out.keeps hk4 (fun b _ e hh=>by have:=HGS.out;omega))
    clear hk4 hs4 hg4
    go_simp
    refine hK _ _ ?_
    clear hK K
    have HBX:=(HR4.out.x HXX.out)
    have HSG:=Lib.hid HBX.2
    obtain⟨⟨k0,k1,k2,k3,k4,k5⟩,⟨k6,k7,k8,k9,k10,k11⟩⟩:=HBX.1.load
    obtain⟨y0,y1,y2⟩:=HE4.out
    clear HBX
    have K0:=fun p=>layB_cell k0 p
    have K1:=fun p=>layB_cell k1 p
    have K2:=fun p=>layB_cell k2 p
    have K3:=fun p=>layB_cell k3 p
    have K4:=fun p=>layB_cell k4 p
    have K5:=fun p=>layB_cell k5 p
    have K6:=fun p=>layB_cell k6 p
    have K7:=fun p=>layB_cell k7 p
    have K8:=fun p=>layB_cell k8 p
    have K9:=fun p=>layB_cell k9 p
    have K10:=fun p=>layB_cell k10 p
    have K11:=fun p=>layB_cell k11 p
    have Y0:=fun p=>layB_cell y0 p
    have Y1:=fun p=>layB_cell y1 p
    have Y2:=fun p=>layB_cell y2 p
    have c1:=fun p=>layB_call (w:=w4) (p:=p) fun W2 hW2=>rign_x x I fk B1 W2 (HSG.out.below hW2) HV.out hB1
    have c2:=fun p=>layB_call (w:=w4) (p:=p) fun W2 hW2=>rign_x x I L B2 W2 (HSG.out.below hW2) HV.out hB2
    simp only[TV.agg]at c1 c2
    have C1:=Lib.hid c1
    have C2:=Lib.hid c2
    clear c1 c2 k0 k1 k2 k3 k4 k5 k6 k7 k8 k9 k10 k11 y0 y1 y2
    refine wpAny_layB 2 _ rfl rfl (by kernel_rfl) (by kernel_rfl) ?_
    dsimp only[List.drop]
    by_cases hz0:z=0
    ·have e1:(z==0)=true:=by simp[hz0]
     clear hz0
     repeat (go_big_quiet_step (fail))
     refine wpQuiet_nil ?_
     intro _ hw'
     obtain⟨pq,hw''⟩:=hw'
     subst hw''
     have hbq:=layB_below w4 pq
     generalize layB w4 pq=wq at hbq ⊢
     have HR5:=Lib.hid (HR4.out.below hbq)
     have HE5:=Lib.hid (HE4.out.below hbq)
     have HI5:=Lib.hid (HI4.out.keeps (Keeps.of_below hbq) (fun k hk e _=>by omega))
     clear hbq K0 K1 K2 K3 K4 K5 K6 K7 K8 K9 K10 K11 Y0 Y1 Y2
     go_wp2_with fail
     go_meet
     exact⟨true,_,rfl,fun e=>absurd e (by simp),HR5,HE5,HI5⟩
    ·have e1:(z==0)=false:=by simp[hz0]
     clear hz0
     cases B1 with
     | true =>
       repeat (go_big_quiet_step (first
        | (go_at_call 65;with_reducible exact C1.out _)
        | (go_at_call 65;with_reducible exact C2.out _)))
       refine wpQuiet_nil ?_
       intro _ hw'
       obtain⟨pq,hw''⟩:=hw'
       subst hw''
       have hbq:=layB_below w4 pq
       generalize layB w4 pq=wq at hbq ⊢
       have HR5:=Lib.hid (HR4.out.below hbq)
       have HE5:=Lib.hid (HE4.out.below hbq)
       have HI5:=Lib.hid (HI4.out.keeps (Keeps.of_below hbq) (fun k hk e _=>by omega))
       clear hbq K0 K1 K2 K3 K4 K5 K6 K7 K8 K9 K10 K11 Y0 Y1 Y2
       go_wp2_with fail
       go_meet
       exact⟨true,_,rfl,fun e=>absurd e (by simp),HR5,HE5,HI5⟩
     | false =>
       repeat (go_big_quiet_step (first
        | (go_at_call 65;with_reducible exact C1.out _)
        | (go_at_call 65;with_reducible exact C2.out _)))
       refine wpQuiet_nil ?_
       intro _ hw'
       obtain⟨pq,hw''⟩:=hw'
       subst hw''
       have hbq:=layB_below w4 pq
       generalize layB w4 pq=wq at hbq ⊢
       have HR5:=Lib.hid (HR4.out.below hbq)
       have HE5:=Lib.hid (HE4.out.below hbq)
       have HI5:=Lib.hid (HI4.out.keeps (Keeps.of_below hbq) (fun k hk e _=>by omega))
       clear hbq K0 K1 K2 K3 K4 K5 K6 K7 K8 K9 K10 K11 Y0 Y1 Y2
       go_wp2_with fail
       go_meet
       exact⟨B2,_,rfl,fun e=>⟨hB1.out,by rw[hB2.out,e]⟩,HR5,HE5,HI5⟩
   case rest =>
    obtain⟨B,r3,rfl,hBB,hr3,he3,hi3⟩:=hcut
    clear HR3 HIN3 HE3
    cases B with
    | true =>
     go_wp2
     go_roundw
     case rel=>exact⟨k+1,_,_,_,by omega,by go_num,hr3,HOK1⟩
     case measure=>simp[intOf];omega
    | false =>
     have hbb:=hBB.out rfl
     have HOK3:=Lib.hid (HOK2.out hbb.1 hbb.2)
     clear hbb
     obtain⟨x0,x1,_⟩:=he3.out
     have x11:wc.cell? ⟨g,11,none⟩=some v11:=by have:=(hr3.out.box 11 (by omega)).1;rwa[upd_same]at this
     have x12:∀o,(wc.alloc o).cell? ⟨g,11,none⟩=some v11:=fun o=>(Keeps.alloc wc o).cell x11 (fun e=>e)
     have HQa:=Lib.hid (World.ownsRow.alloc hr3.out.hot.own (.cells #[.int .i64 fk,.slice (some ⟨ub,uo,none⟩) (m+1) cu] 73))
     go_upto_region 4 with(fail)
     go_region_law
      (refine step_append_map (by rfl) _ _ (by rfl) W.heap.size v11 Q (by rfl) (by exact HQa.out) _ 1 ((fk,tk),.slice (some ⟨ub,uo,none⟩) (m+1) cu) (by rfl) (by simp[World.cell?_alloc_new]) (by simp[World.cell?_alloc_new]) rfl HQl.out (by have:=hr3.out.size;simp;omega) ?_
       intro v8 w8 ho8 hg8 hv8
       obtain⟨p8,n8,q8,rfl⟩:=row_slice ho8
       have hm8:=Lib.hid (hr3.out.addQ hi3.out ho8 hg8 hv8 ((Below.refl wc.heap.size wc).alloc (Nat.le_refl _) _).drew)
       have y8:=hm8.out.2.1
       have z8:=hm8.out.2.2)
     all_goals
      clear ho8 hg8 hv8
      go_wp2
      go_roundw
      case rel=>exact⟨k+1,_,_,_,by omega,by go_num,hm8.out.1,HOK3⟩
      case measure=>simp[intOf];omega
  ·obtain rfl:k=5:=by omega
   go_wp2
   go_end0
   exact RSt.done HBL.out hd.out hok.out
end Go.Proofs.YtblcoicaeeiojaaGreatDoor
