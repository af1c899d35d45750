/-
  keep.add, keep.usual, keep.choose.
  keep.maps.
  keep.maps: the walk.
-/
import Derived.Test.YtblcoicaeeiojaaGreatDoorSSiPmTblMem
import Derived.Deep.RegionHeld3
import Derived.Deep.RegionLaw
import Derived.Test.YtblcoicaeeiojaaGreatDoorSSiTblD
set_option linter.unusedSimpArgs false
set_option linter.unusedVariables false
namespace Go.Proofs.YtblcoicaeeiojaaGreatDoor
open Go.RowKit
theorem step_append_spans {w : World} {ops : Array Oper} {o : Oper} {a : Act} {K : Act → World → Prop} {Q : Exit → Act → World → Prop} {E : Prop} (hgd : o.guard = none) (s x : Operand)
  (ho:o.op = .call { callee := .builtin .append,args:=#[s,x],argTypes:=#[23,23]})
  (base:Nat) (v:Value) (xs:List Sp) (hs:a.eval s=v) (hown:Spans w base v xs)
  (p:Option Addr) (m c:Nat) (ys:List Sp) (hm:ys.length=m) (hx:a.eval x = .slice p m c) (hin:SpIn w p ys)
  (hlen:xs.length+ys.length≤1099511627776) (hbase:base≤w.heap.size)
  (h:∀v' w',Spans w' base v' (xs++ys)→w.grownBy w' v.ownBlock→K (a.put o.dst v') w') :
  if Region.wanted o (yielded ops a.tmps)=true then Oper.wp Tryz.prog o a w K Q else E:=by
 have hw:Region.wanted o (yielded ops a.tmps)=true:=by simp[Region.wanted,hgd]
 rw[if_pos hw]
 exact wp_append_spans s x ho base v xs hs hown p m c ys hm hx hin hlen hbase h
def AddPost (g i:Nat) (v0:Value) (L:List Sp) (w:World) (e:Ending) (w':World):Prop :=
 e = .returned (.tuple #[])∧∃v,Sets w w' g i v∧SpV w' v L∧(v=v0∨∀b off n c,v = .slice (some ⟨b,off,none⟩) n c→w.heap.size≤b∧b<w'.heap.size)
theorem keeps_g {W w1:World} (h:W.grownBy w1 (Value.ownBlock (.slice none 0 0))):Keeps W w1 (fun _=>False):=⟨h.os,h.tape,h.output,h.size,fun k hk _=>h.block k hk (by simp[Value.ownBlock])⟩
theorem keeps_ag {W w1:World} {o:Obj} (h:(W.alloc o).grownBy w1 (Value.ownBlock (.slice none 0 0))):Keeps W w1 (fun _=>False) :=
 (Keeps.alloc W o).trans (keeps_g h) (fun _ _ e=>e) (fun _ _ e=>e)
theorem Keeps.undrew {W w1:World} {R:Nat→Prop} (h:Keeps W.drew w1 R):Keeps W w1 R:=⟨h.os,h.tape,h.output,h.size,h.block⟩
theorem Spans.spO {w:World} {B:Nat} {v:Value} {l:List Sp} (h:Spans w B v l) (hl:l.length≤17592186043904):SpO w (fun b=>B≤b) v l:=by
 obtain⟨p,c,rfl,hin⟩:=h.inn
 exact⟨⟨p,c,rfl,hin,hl⟩,fun b off n c e=>World.ownsRow.lt h b (by rw[e];rfl)⟩
theorem SpIn.keeps {w w':World} {p:Option Addr} {l:List Sp} (h:SpIn w p l) (hk:Keeps w w' (fun _=>False)):SpIn w' p l:=h.below (hk.below (Nat.le_refl _) (fun _ _ e=>e.elim))
set_option maxRecDepth 100000 in
set_option maxHeartbeats 4000000 in
theorem add_any (g i : Nat) (p : Option Addr) (n cap : Nat) (L : List Sp) (s : Sp) (z : Int) (w : World) (hc : w.cell? ⟨g, i, none⟩ = some (.slice p n cap)) (hf : w.frozen? ⟨g, i, none⟩ = false)
  (hin:SpIn w p L) (hn:L.length=n) (hl:n≤1000) :
  Calls Tryz.prog 34 #[.pointer (some ⟨g,i,none⟩),spV s,.int .i64 z] w (AddPost g i (.slice p n cap) (addL L s z) w):=by
 obtain⟨f,t,v⟩:=s
 have hg:g<w.heap.size:=World.block_lt_of_cell? w _ hc
 have HI:=Lib.hid hin
 have HN:=Lib.hid hn
 clear hin hn
 by_cases hz:0<z
 ·have HA:Hid (addL L (f,t,v) z=L++[(f,t,z)]):=by unfold Hid addL;rw[if_pos hz]
  obtain⟨W,hW⟩:∃W:World,W=w.alloc (.cells #[.int .i64 f,.int .i64 t,.int .i64 z] 66):=⟨_,rfl⟩
  obtain⟨h,hh⟩:∃h,h=w.heap.size:=⟨_,rfl⟩
  have hkW:Keeps w W (fun _=>False):=by rw[hW];exact Keeps.alloc _ _
  have hcur:Cur W h f t z:=by rw[hW,hh];exact Cur.new _ _ _ _ _
  obtain⟨x0,x1,x2,_,_⟩:=hcur
  have c0:W.cell? ⟨g,i,none⟩=some (.slice p n cap):=hkW.cell hc (fun e=>e)
  have f0:W.frozen? ⟨g,i,none⟩=false:=(World.frozen?_of_block (a:=⟨g,i,none⟩) (hkW.block g hg (fun e=>e))).trans hf
  have HIW:=Lib.hid (SpIn.keeps HI.out hkW)
  have HKW:=Lib.hid hkW
  have hWs:h<W.heap.size:=by rw[hW,hh];simp
  have cB0:(W.alloc (.cells #[.int .i64 f,.int .i64 t,.int .i64 z] 66)).cell? ⟨g,i,none⟩=some (.slice p n cap):=(Keeps.alloc W _).cell c0 (fun e=>e)
  clear hkW
  go_enter Tryz.func34,Tryz.ntmps34
  go_upto_region 3 with(fail)
  rw[←hW,←hh]
  have HH:=Lib.hid hh
  have HC:=Lib.hid hc
  have HF:=Lib.hid hf
  clear hW hc hf HI hh
  go_region_law
   (first
    | (refine step_append_spans (by rfl) (.const (.slice none 0 0)) _ (by rfl) h (.slice none 0 0) [] (by rfl) (Spans.nil _ _) p n cap L HN.out (by rfl) (by first | exact HIW.out | exact HIW.out.alloc _) (by have := HN.out; simp; omega) (by first | exact Nat.le_of_lt hWs | (simp; omega)) ?_
       intro v1 w1 ho1 hg1
       have hk1:Keeps W w1 (fun _=>False):=by first|exact(keeps_g hg1).undrew|exact(keeps_ag (W:=W.drew) hg1).undrew
       have y0:w1.cell? ⟨h,0,none⟩=some (.int .i64 f):=hk1.cell x0 (fun e=>e)
       have y1:w1.cell? ⟨h,1,none⟩=some (.int .i64 t):=hk1.cell x1 (fun e=>e)
       have y2:w1.cell? ⟨h,2,none⟩=some (.int .i64 z):=hk1.cell x2 (fun e=>e)
       have hs1:h<w1.heap.size:=Nat.lt_of_lt_of_le hWs hk1.size)
    | (refine step_append_spans (by rfl) _ _ (by rfl) h v1 ([] ++ L) (by rfl) (by first | exact ho1 | exact ho1.alloc _) _ 1 1 [(f, t, z)] rfl (by rfl) (by first | exact one_new w1 f t z _ | exact (one_new W f t z 66).below ⟨hg1.os, hg1.tape, hg1.output, hg1.size, fun k hk => hg1.block k hk (by simp [Value.ownBlock])⟩) (by have := HN.out; simp; omega) (by first | exact Nat.le_of_lt hs1 | (simp; omega)) ?_
       intro v2 w2 ho2 hg2
       have hn1:∀k,Value.ownBlock v1=some k→h≤k:=fun k hk=>(ho1.base k hk)
       have hk2:Keeps w1 w2 (fun k=>Value.ownBlock v1=some k):=by first|exact Keeps.of_grown hg2|exact(Keeps.alloc w1 _).trans (Keeps.of_grown hg2) (fun _ _ e=>e.elim) (fun _ _ e=>e)
       have hk3:Keeps w w2 (fun _=>False):=(HKW.out.trans hk1 (fun _ _ e=>e) (fun _ _ e=>e)).trans hk2 (fun _ _ e=>e) (fun b hb e=>by have:=hn1 b e;have:=HH.out;omega)
       have c2:w2.cell? ⟨g,i,none⟩=some (.slice p n cap):=hk3.cell HC.out (fun e=>e)
       have f2:w2.frozen? ⟨g,i,none⟩=false:=(World.frozen?_of_block (a:=⟨g,i,none⟩) (hk3.block g hg (fun e=>e))).trans HF.out
       have hso:=Lib.hid (ho2.spO (by have:=HN.out;simp;omega))
       obtain⟨p2,q2,N2,rfl⟩:∃p2 q2 N2,v2 = .slice p2 N2 q2:=by obtain⟨p2,q2,e,_⟩:=ho2.inn;exact⟨p2,q2,_,e⟩))
  all_goals
   have HS2:=Lib.hid ((Sets.store w2 g i (.slice p2 N2 q2) _ c2).behind hk3 (fun _ _ e=>e) hg)
   have HV2:=Lib.hid (hso.out.keeps (Keeps.store w2 g i (.slice p2 N2 q2)) (fun k _ e hh=>by have:=HH.out;omega))
   clear ho2 hg2 hk2 hk3 ho1 hg1 hk1 hn1
   go_wp2
   go_end0
   rw[HA.out]
   refine⟨rfl,_,HS2.out,HV2.out.1,.inr fun b off n c e=>?_⟩
   have:=HV2.out.2 b off n c e
   have:=HH.out
   omega
 ·have HA:Hid (addL L (f,t,v) z=L):=by unfold Hid addL;rw[if_neg hz]
  have hbl:=(Below.refl w.heap.size w).alloc (Nat.le_refl _) (.cells #[.int .i64 f,.int .i64 t,.int .i64 v] 66)
  have HS:=Lib.hid (Sets.same w g i _ hc hbl)
  have HI2:=Lib.hid (HI.out.below hbl)
  clear hbl
  go_enter Tryz.func34,Tryz.ntmps34
  go_wp2
  go_end0
  rw[HA.out]
  exact⟨rfl,_,HS.out,⟨p,cap,by rw[HN.out],HI2.out,by have:=HN.out;omega⟩,.inl rfl⟩
theorem IntsIn_keeps {w w':World} {R:Nat→Prop} {b off:Nat} {l:List Int} (h:IntsIn w (some ⟨b,off,none⟩) l) (hk:Keeps w w' R) (hr:¬R b):IntsIn w' (some ⟨b,off,none⟩) l:=by
 intro k hkl
 obtain⟨b',off',e,hc⟩:=h k hkl
 cases e
 exact⟨b,off,rfl,hk.cell hc hr⟩
theorem pool_any (w : World) :
  Calls Tryz.prog 31 #[] w fun e w'=>e = .returned (.slice (some ⟨w.heap.size,0,none⟩) 28 28)∧IntsIn w' (some ⟨w.heap.size,0,none⟩) poolL∧w.heap.size<w'.heap.size∧Below w.heap.size w w':=by
 go_enter Tryz.func31,Tryz.ntmps31
 go_wp2
 go_ret
 refine⟨rfl,?_,by simp,(Below.refl _ _).alloc (Nat.le_refl _) _⟩
 exact lit_ints w _ poolL _ rfl
structure PSt (w1 w:World) (gs g sb pb:Nat) (f:Nat→Value) (v8 v5:Value) (Q:List Mq) (S:List Sp) (sc:Nat) (sl r:List Int):Prop where
 src:Src w gs r
 box:BoxF w g (upd (upd f 8 v8) 5 v5)
 hot:Hot w w1.heap.size (fun b=>w1.heap.size≤b∧v8.ownBlock≠some b) v8 Q
 sp:SpO w (fun b=>w1.heap.size≤b∧v8.ownBlock≠some b) v5 S
 st:w.ownsRow 0 3 1 (.slice (some ⟨sb,0,none⟩) 28 sc) 28 (sl.map (.int .i64))
 pool:IntsIn w (some ⟨pb,0,none⟩) poolL
 keep:Keeps w1 w (fun b=>b=gs∨b=g∨b=sb)
 ord:(gs<g∧g<w1.heap.size∧sb<w1.heap.size∧sb≠g∧gs<sb)∧(pb<w1.heap.size∧pb≠gs∧pb≠g∧pb≠sb)
section
variable {w1 w w2 w':World} {gs g sb pb sc:Nat} {f:Nat→Value} {v8 v5:Value} {Q:List Mq} {S:List Sp} {sl r r':List Int}
theorem PSt.size (h:PSt w1 w gs g sb pb f v8 v5 Q S sc sl r):w1.heap.size≤w.heap.size:=h.keep.size
theorem PSt.own (h:PSt w1 w gs g sb pb f v8 v5 Q S sc sl r):∀b,v8.ownBlock=some b→w1.heap.size≤b∧b<w.heap.size:=fun b hb=>World.ownsRow.lt h.hot.own b hb
theorem PSt.step (h:PSt w1 w gs g sb pb f v8 v5 Q S sc sl r) (hk:Keeps w w' (fun b=>b=gs)) (hs:Src w' gs r'):PSt w1 w' gs g sb pb f v8 v5 Q S sc sl r':=by
 obtain⟨⟨o1,o2,o3,o4,o5⟩,⟨o6,o7,o8,o9⟩⟩:=h.ord
 have h8:=h.own
 exact⟨hs,h.box.keeps hk (by omega),h.hot.keeps hk (fun b hb e=>by have:=h8 b hb;omega) (fun b hb e hh=>by omega),h.sp.keeps hk (fun b hb e hh=>by omega),hk.owns h.st (fun b hb e=>by have e2:some sb=some b:=hb;injection e2 with e2;omega),IntsIn_keeps h.pool hk o7,h.keep.trans hk (fun _ _ e=>e) (fun _ _ e => .inl e),h.ord⟩
theorem PSt.below (h:PSt w1 w gs g sb pb f v8 v5 Q S sc sl r) (hb:Below w.heap.size w w'):PSt w1 w' gs g sb pb f v8 v5 Q S sc sl r :=
 h.step ((Keeps.of_below hb).weak (fun b hb e=>by omega)) (h.src.below hb)
theorem PSt.start (hs : Src w gs r) (hb : BoxF w g f) (h8 : f 8 = .slice none 0 0) (h5 : f 5 = .slice none 0 0) (hst : w.ownsRow 0 3 1 (.slice (some ⟨sb, 0, none⟩) 28 sc) 28 (sl.map (.int .i64))) (hp : IntsIn w (some ⟨pb, 0, none⟩) poolL)
  (ho:gs<g∧sb≠g∧gs<sb) (hp1:pb<w.heap.size∧pb≠gs∧pb≠g∧pb≠sb):PSt w w gs g sb pb f (.slice none 0 0) (.slice none 0 0) [] [] sc sl r :=
 ⟨hs,by rw[upd_self _ _ _ h8,upd_self _ _ _ h5];exact hb,Hot.nil _ _ _,SpO.nil _ _,hst,hp,Keeps.refl _ _,⟨⟨ho.1,hb.lt,(World.ownsRow.lt hst sb rfl).2,ho.2.1,ho.2.2⟩,hp1⟩⟩
theorem PSt.setSt (h:PSt w1 w gs g sb pb f v8 v5 Q S sc sl r) (k:Nat):PSt w1 (w.setCell ⟨sb,k,none⟩ (.int .i64 3)) gs g sb pb f v8 v5 Q S sc (sl.set k 3) r:=by
 obtain⟨⟨o1,o2,o3,o4,o5⟩,⟨o6,o7,o8,o9⟩⟩:=h.ord
 have h8:=h.own
 have hk:=Keeps.store w sb k (.int .i64 3)
 have hz:=h.size
 have hl:=h.st.1
 refine⟨h.src.keeps hk (fun b hb e=>?_),h.box.keeps hk (by omega),h.hot.keeps hk (fun b hb e=>by have:=h8 b hb;omega) (fun b hb e hh=>by omega),h.sp.keeps hk (fun b hb e hh=>by omega),?_,IntsIn_keeps h.pool hk o9,h.keep.trans hk (fun _ _ e=>e) (fun _ _ e => .inr (.inr e)),h.ord⟩
 ·omega
 ·have:=(World.ownsRow.stored (g:=sb) h.st k (.int .i64 3)).1
  rwa[←List.map_set]at this
theorem PSt.addS {v : Value} {L : List Sp} (h : PSt w1 w gs g sb pb f v8 v5 Q S sc sl r) (hs : Sets w w' g 5 v) (hv : SpV w' v L) (hl : v = v5 ∨ ∀ b off n c, v = .slice (some ⟨b, off, none⟩) n c → w.heap.size ≤ b ∧ b < w'.heap.size) :
  PSt w1 w' gs g sb pb f v8 v Q L sc sl r:=by
 obtain⟨⟨o1,o2,o3,o4,o5⟩,⟨o6,o7,o8,o9⟩⟩:=h.ord
 have h8:=h.own
 have hz:=h.size
 have hk:=hs.keep
 refine⟨h.src.keeps hk (fun b hb e=>by omega),?_,h.hot.keeps hk (fun b hb e=>by have:=h8 b hb;omega) (fun b hb e hh=>by omega),⟨hv,?_⟩,hk.owns h.st (fun b hb e=>by have e2:some sb=some b:=hb;injection e2 with e2;omega),IntsIn_keeps h.pool hk o8,h.keep.trans hk (fun _ _ e=>e) (fun _ _ e => .inr (.inl e)),h.ord⟩
 ·have:=h.box.sets hs
  rwa[upd_upd]at this
 ·intro b off n c e
  rcases hl with hl|hl
  ·subst hl
   have:=h.sp.2 b off n c e
   exact⟨this.1,Nat.lt_of_lt_of_le this.2 hk.size⟩
  ·have:=hl b off n c e
   exact⟨⟨by omega,fun e8=>by have:=h8 b e8;omega⟩,this.2⟩
theorem PSt.addQ {v : Value} {q : Mq} (h : PSt w1 w gs g sb pb f v8 v5 Q S sc sl r) (hq : InO w (fun b => w1.heap.size ≤ b ∧ v8.ownBlock ≠ some b) q.2 q.1.2) (ho : w'.ownsRow w1.heap.size 73 2 v (Q ++ [q]).length (cellsQ (Q ++ [q])))
  (hg:w2.grownBy w' v8.ownBlock) (hv:v.ownBlock=v8.ownBlock∨v.ownBlock=some w2.heap.size) (hb:Below w.heap.size w w2) :
  PSt w1 (w'.setCell ⟨g,8,none⟩ v) gs g sb pb f v v5 (Q++[q]) S sc sl r∧w'.cell? ⟨g,8,none⟩=some v8∧w'.frozen? ⟨g,8,none⟩=false:=by
 obtain⟨⟨o1,o2,o3,o4,o5⟩,⟨o6,o7,o8,o9⟩⟩:=h.ord
 have hz:=hb.size
 have hz0:=h.size
 have h8:=h.own
 have hk1:Keeps w w' (fun b=>v8.ownBlock=some b):=(Keeps.of_below hb).trans (Keeps.of_grown hg) (fun b hb e=>by omega) (fun _ _ e=>e)
 have hk2:=Keeps.store w' g 8 v
 have hk3:Keeps w (w'.setCell ⟨g,8,none⟩ v) (fun b=>v8.ownBlock=some b∨b=g):=hk1.trans hk2 (fun _ _ e => .inl e) (fun _ _ e => .inr e)
 have hg8:¬v8.ownBlock=some g:=fun e=>by have:=h8 g e;omega
 have hbx:=h.box.keeps hk1 hg8
 have hnew:∀b,b<w.heap.size→v8.ownBlock≠some b→v.ownBlock≠some b:=by
  intro b hb hn e
  rcases hv with hv|hv
  ·exact hn (by rw[←hv,e])
  ·rw[hv]at e;injection e with e;omega
 have hgv:v.ownBlock≠some g:=hnew g (by omega) hg8
 have c8:w'.cell? ⟨g,8,none⟩=some v8:=by have:=(hbx 8 (by omega)).1;rwa[upd_other _ _ (by omega),upd_same]at this
 have hR:∀b,b<w1.heap.size→b≠g→¬(v8.ownBlock=some b∨b=g):=by
  rintro b hb hne (e|e)
  ·have:=h8 b e;omega
  ·exact hne e
 have key:∀u l,InO w (fun b=>w1.heap.size≤b∧v8.ownBlock≠some b) u l→InO (w'.setCell ⟨g,8,none⟩ v) (fun b=>w1.heap.size≤b∧v.ownBlock≠some b) u l:=by
  intro u l hu
  have h1:=hu.weak (Q:=fun b=>(w1.heap.size≤b∧v8.ownBlock≠some b)∧b<w.heap.size) (fun b hb e=>⟨e,hb⟩)
  have h2:=h1.keeps hk3 (fun b hb e hh=>by
   rcases e with e|e
   ·exact hh.1.2 e
   ·have:=hh.1.1;omega)
  exact h2.weak (fun b hb e=>⟨e.1.1,hnew b e.2 e.1.2⟩)
 refine⟨⟨h.src.keeps hk3 (fun b hb e=>hR b (by omega) (by omega) e),?_,⟨hk2.owns ho (fun b hb e=>hgv (by rw[hb,e])),?_⟩,?_,hk3.owns h.st (fun b hb e=>by have e2:some sb=some b:=hb;injection e2 with e2;exact hR b (by omega) (by omega) e),IntsIn_keeps h.pool hk3 (hR pb o6 o8),h.keep.trans hk3 (fun _ _ e=>e) (fun b hb e=>?_),h.ord⟩,c8,(hbx 8 (by omega)).2⟩
 ·have:=hbx.sets (Sets.store w' g 8 v _ c8)
  rwa[upd_swap f 8 5 v8 v5 (by omega),upd_upd,upd_swap f 5 8 v5 v (by omega)]at this
 ·intro x hx
  rcases List.mem_append.1 hx with hx|hx
  ·exact key _ _ (h.hot.tos x hx)
  ·rw[List.mem_singleton]at hx;subst hx;exact key _ _ hq
 ·have h1:=h.sp.weak (Q:=fun b=>(w1.heap.size≤b∧v8.ownBlock≠some b)∧b<w.heap.size) (fun b hb e=>⟨e,hb⟩)
  have h2:=h1.keeps hk3 (fun b hb e hh=>by
   rcases e with e|e
   ·exact hh.1.2 e
   ·have:=hh.1.1;omega)
  exact h2.weak (fun b hb e=>⟨e.1.1,hnew b e.2 e.1.2⟩)
 ·rcases e with e|e
  ·have:=h8 b e;omega
  ·exact .inr (.inl e)
end
end Go.Proofs.YtblcoicaeeiojaaGreatDoor
namespace Go.Proofs.YtblcoicaeeiojaaGreatDoor
open Go.RowKit
theorem pool_get:∀k,k<28→poolL.getD k 0=poolAt k:=by decide +kernel
theorem pool_len:poolL.length=28:=by decide
def ok5 (u:Int):Prop:=u=0∨u=1∨u=2∨u=4
theorem PSt.cellP {w1 w:World} {gs g sb pb sc:Nat} {f:Nat→Value} {v8 v5:Value} {Q:List Mq} {S:List Sp} {sl r:List Int} (h:PSt w1 w gs g sb pb f v8 v5 Q S sc sl r) (k:Nat) (hk:k<28):w.cell? ⟨pb,k,none⟩=some (.int .i64 (poolAt k)):=by
 obtain⟨b,off,e,hc⟩:=h.pool k (by rw[pool_len];exact hk)
 cases e
 rw[pool_get k hk]at hc
 simpa using hc
theorem PSt.len {w1 w:World} {gs g sb pb sc:Nat} {f:Nat→Value} {v8 v5:Value} {Q:List Mq} {S:List Sp} {sl r:List Int} (h:PSt w1 w gs g sb pb f v8 v5 Q S sc sl r):sl.length=28:=by
 have:=h.st.1
 simpa using this
theorem PSt.cellS {w1 w:World} {gs g sb pb sc:Nat} {f:Nat→Value} {v8 v5:Value} {Q:List Mq} {S:List Sp} {sl r:List Int} (h:PSt w1 w gs g sb pb f v8 v5 Q S sc sl r) (k:Nat) (hk:k<28):w.cell? ⟨sb,k,none⟩=some (.int .i64 (sl.getD k 0))∧w.frozen? ⟨sb,k,none⟩=false:=by
 have hl:=h.len
 have ho:Ints w 0 (.slice (some ⟨sb,0,none⟩) 28 sc) sl:=by
  unfold Ints;rw[hl];exact h.st
 obtain⟨p,c,e,hin⟩:=ho.inn
 injection e with e _ _
 subst e
 obtain⟨b,off,e,hc⟩:=hin k (by omega)
 cases e
 exact⟨by simpa using hc,World.ownsRow.frozenAt (g:=sb) h.st k⟩
def MStep (k:Nat) (Q Q':List Mq) (sl sl':List Int):Prop:=(Q'=Q∧sl'=sl)∨∃tl u,Q'=Q++[((poolAt k,tl),u)]∧sl'=sl.set k 3∧mapTo tl
theorem MStep.ok {k : Nat} {Q Q' : List Mq} {sl sl' : List Int} {S : List Sp} (h : MStep k Q Q' sl sl') (hk : k < 28) (hl : sl.length = 28) (hm : MapOk k (Q.map (·.1)) S) (h5 : ∀ i, k ≤ i → i < 28 → ok5 (sl.getD i 0)) :
  MapOk (k+1) (Q'.map (·.1)) (addL S (poolAt k,poolAt k,0) (sl'.getD k 0))∧∀i,k+1≤i→i<28→ok5 (sl'.getD i 0):=by
 rcases h with⟨rfl,rfl⟩|⟨tl,u,rfl,rfl,ht⟩
 ·have:=h5 k (Nat.le_refl _) hk
  unfold ok5 at this
  exact⟨hm.plain hk (by omega) (by omega) 0,fun i h1 h2=>h5 i (by omega) h2⟩
 ·constructor
  ·have e:(sl.set k 3).getD k 0=3:=by simp[List.getD,hl,hk]
   rw[e,List.map_append]
   exact hm.more hk ht 0
  ·intro i h1 h2
   have e:(sl.set k 3).getD i 0=sl.getD i 0:=by
    simp only[List.getD_eq_getElem?_getD]
    rw[List.getElem?_set_ne (by omega)]
   rw[e];exact h5 i (by omega) h2
def KMapsPost (gs g sb:Nat) (f:Nat→Value) (w:World) (e:Ending) (w':World):Prop :=
 e = .returned (.tuple #[])∧∃r v8 v5 M S,MapOk 28 M S∧Src w' gs r∧BoxF w' g (upd (upd f 8 v8) 5 v5)∧MpO w' (fun b=>w.heap.size≤b) v8 M∧SpO w' (fun b=>w.heap.size≤b) v5 S∧Keeps w w' (fun b=>b=gs∨b=g∨b=sb)
theorem PSt.done {w w1 w2:World} {gs g sb pb sc:Nat} {f:Nat→Value} {v8 v5:Value} {Q:List Mq} {S:List Sp} {sl r:List Int} (hb:Below w.heap.size w w1) (h:PSt w1 w2 gs g sb pb f v8 v5 Q S sc sl r) (hok:MapOk 28 (Q.map (·.1)) S):KMapsPost gs g sb f w (.returned (.tuple #[])) w2:=by
 have h1:=hok.len
 have hz:=hb.size
 refine⟨rfl,r,v8,v5,_,S,hok,h.src,h.box,h.hot.mpO (by simp at h1;omega) (fun b _ hb=>by have:=hb.1;omega) (fun b hb _=>by omega),h.sp.weak (fun b _ hb=>by have:=hb.1;omega),(Keeps.of_below hb).trans h.keep (fun b hb e=>by omega) (fun _ _ e=>e)⟩
set_option maxRecDepth 100000 in
set_option maxHeartbeats 8000000 in
theorem maps_any (gs g sb sc : Nat) (f : Nat → Value) (sl r0 : List Int) (w : World) (hs : Src w gs r0) (hb : BoxF w g f) (h8 : f 8 = .slice none 0 0) (h5 : f 5 = .slice none 0 0)
  (hst:w.ownsRow 0 3 1 (.slice (some ⟨sb,0,none⟩) 28 sc) 28 (sl.map (.int .i64))) (h5s:∀i,i<28→ok5 (sl.getD i 0)) (ho:gs<g∧sb≠g∧gs<sb) :
  Calls Tryz.prog 36 #[.pointer (some ⟨gs,0,none⟩),.pointer (some ⟨g,0,none⟩),.slice (some ⟨sb,0,none⟩) 28 sc] w (KMapsPost gs g sb f w):=by
 have hlt1:=hs.lt
 have hlt2:=hb.lt
 have hlt3:=(World.ownsRow.lt hst sb rfl).2
 have HS:=Lib.hid hs
 have HB:=Lib.hid hb
 have H8:=Lib.hid h8
 have H5:=Lib.hid h5
 have HST:=Lib.hid hst
 have H5S:Hid (∀i,0≤i→i<28→ok5 (sl.getD i 0)):=fun i _ h=>h5s i h
 have HO:=Lib.hid ho
 clear hs hb h8 h5 hst h5s ho
 go_enter Tryz.func36,Tryz.ntmps36
 go_wp2_with fail
 refine(pool_any _).mono ?_
 rintro e w1 ⟨rfl,hp,hz,hbl⟩
 have HBL:=Lib.hid hbl
 have HD:=Lib.hid (PSt.start (sc:=sc) (pb:=w.heap.size) (HS.out.below hbl) (HB.out.below hbl) H8.out H5.out (ownsRow_below HST.out hbl) hp HO.out ⟨hz,by omega,by omega,by omega⟩)
 clear hp hz hbl HS HB H8 H5 HST
 go_wp2
 go_loopw [13] (fun iv wr=>∃(k:Nat) (v8 v5:Value) (Q:List Mq) (S:List Sp) (sl r:List Int),k≤28∧iv = .int .i64 k∧Hid (PSt w1 wr gs g sb w.heap.size f v8 v5 Q S sc sl r)∧Hid (MapOk k (Q.map (·.1)) S)∧Hid (∀i,k≤i→i<28→ok5 (sl.getD i 0))) (fun iv _=>28-(intOf iv).toNat)
 case atStart=>exact⟨0,_,_,_,_,sl,r0,by omega,rfl,HD,MapOk.nil,H5S⟩
 case round =>
  obtain⟨k,v8,v5,Q,S,sl,r,hk,rfl,hd,hok,h5k⟩:=hrel
  clear HD H5S
  by_cases hk28:k<28
  ·have hki:(k:Int)<28:=by omega
   have x1:=hd.out.cellP k hk28
   have hpm:=Lib.hid (pool_bd k hk28)
   have HMS:Hid (∀Q' sl',MStep k Q Q' sl sl'→MapOk (k+1) (Q'.map (·.1)) (addL S (poolAt k,poolAt k,0) (sl'.getD k 0))∧∀i,k+1≤i→i<28→ok5 (sl'.getD i 0)):=fun Q' sl' h=>h.ok hk28 hd.out.len hok.out h5k.out
   have HMT:Hid (∀tl u,mapTo tl→MStep k Q (Q++[((poolAt k,tl),u)]) sl (sl.set k 3)):=fun tl u h => .inr ⟨tl,u,rfl,rfl,h⟩
   have HLEN:Hid (Q.length≤1000∧S.length≤1000):=by
    have h1:=hok.out.len
    have h2:=hok.out.sp.len
    rw[List.length_map]at h1
    unfold Hid;omega
   generalize poolAt k=c at x1 hpm HMS HMT
   clear hok h5k
   go_upto_region 4 with(fail)
   clear x1
   go_cut [32] (fun cv wx=>∃(B:Bool) (r':List Int),cv = .bool B∧Hid (PSt w1 wx gs g sb w.heap.size f v8 v5 Q S sc sl r'))
   case first =>
    by_cases h1:c=128512
    ·have e1:(c==128512)=true:=by simp[h1]
     clear h1
     go_wp2_with fail
     go_meet
     exact⟨_,_,rfl,hd⟩
    ·have e1:(c==128512)=false:=by simp[h1]
     clear h1
     by_cases h2:c=7684
     ·have e2:(c==7684)=true:=by simp[h2]
      clear h2
      go_wp2_with fail
      go_meet
      exact⟨_,_,rfl,hd⟩
     ·have e2:(c==7684)=false:=by simp[h2]
      clear h2
      by_cases h3:c=947
      ·have e3:(c==947)=true:=by simp[h3]
       clear h3
       obtain⟨y,hy⟩:∃y,nextV r 2=y:=⟨_,rfl⟩
       have HY:=Lib.hid hy
       clear hy
       go_wp2_with fail
       refine(next_at gs r 2 y _ hd.out.src (by omega) (by omega) HY).mono ?_
       rintro e w3 ⟨rfl,hs3,hg3⟩
       have HS3:=Lib.hid (hd.out.step (next_keeps hg3) hs3)
       clear hs3 hg3
       go_wp2_with fail
       go_meet
       exact⟨_,_,rfl,HS3⟩
      ·have e3:(c==947)=false:=by simp[h3]
       clear h3
       go_wp2_with fail
       go_meet
       exact⟨_,_,rfl,hd⟩
   case rest =>
    obtain⟨B,r3,rfl,hps⟩:=hcut
    clear hd
    go_upto_if 32 with(fail)
    go_cut [9] (fun _ wx=>∃(v8':Value) (Q':List Mq) (sl' r':List Int),Hid (PSt w1 wx gs g sb w.heap.size f v8' v5 Q' S sc sl' r')∧Hid (MStep k Q Q' sl sl'))
    case first =>
     cases B with
     | false =>
      go_wp2_with fail
      go_meet
      exact⟨v8,Q,sl,r3,hps,.inl ⟨rfl,rfl⟩⟩
     | true =>
      obtain⟨q,hq⟩:∃q,nextV r3 3=q:=⟨_,rfl⟩
      obtain⟨q0,q1⟩:=nextV_bd r3 3 (by omega)
      rw[hq]at q0 q1
      have HQ:=Lib.hid hq
      clear hq
      obtain⟨wo,hwo⟩:∃wo:World,wo=wc:=⟨_,rfl⟩
      have HPO:Hid (PSt w1 wo gs g sb w.heap.size f v8 v5 Q S sc sl r3):=by unfold Hid;rw[hwo];exact hps.out
      have HK0:Hid (Keeps wo wc (fun b=>b=gs)):=by unfold Hid;rw[hwo];exact Keeps.refl _ _
      have hgw:gs<wo.heap.size:=HPO.out.src.lt
      have hsrc:=Lib.hid hps.out.src
      clear hwo hps
      go_wp2_with fail
      refine(next_at gs r3 3 q _ hsrc.out (by omega) (by omega) HQ).mono ?_
      rintro e w2 ⟨rfl,hs2,hg2⟩
      have HST:=Lib.hid (MSt.new (fr:=c) (a:=97+q) (HK0.out.trans (next_keeps hg2) (fun _ _ e=>e) (fun _ _ e=>e)) hs2 hgw)
      have HMA:Hid (mapTo [97+q]):=⟨97+q,by simp;omega,.inl rfl⟩
      have HMA2:Hid (mapTo [97+q,46]):=⟨97+q,by simp;omega,.inr rfl⟩
      clear hs2 hg2 HK0 hsrc
      obtain⟨y,hy⟩:∃y,nextV r3.tail 2=y:=⟨_,rfl⟩
      have HY:=Lib.hid hy
      clear hy
      go_upto_region 6 with(fail)
      generalize ((w2.alloc (.cells #[.int .i64 (97+q)] 3)).alloc (.cells #[.int .i64 c,.slice (some ⟨w2.heap.size,0,none⟩) 1 1] 73))=W at HST ⊢
      generalize w2.heap.size+1=mb at HST ⊢
      generalize w2.heap.size=tb at HST ⊢
      generalize 97+q=a at HST HMA HMA2 ⊢
      clear HQ q0 q1
      go_wp2_with fail
      refine(next_at gs r3.tail 2 y _ HST.out.src (by omega) (by omega) HY).mono ?_
      rintro e w4 ⟨rfl,hs4,hg4⟩
      have HS4:=Lib.hid (HST.out.step (next_keeps hg4) hs4)
      clear hs4 hg4 HST
      go_upto_if 41 with(fail)
      go_cut [9] (fun v wx=>∃(u:Value) (tl r':List Int),v = .pointer (some ⟨mb,0,none⟩)∧Hid (mapTo tl)∧Hid (MSt wo.heap.size wo wx gs mb c u tl r'))
      case first =>
       by_cases hy0:y=0
       ·have e1:(y==0)=true:=by simp[hy0]
        have x1:=HS4.out.c1
        have x2:∀o,(w4.alloc o).cell? ⟨mb,1,none⟩=some (.slice (some ⟨tb,0,none⟩) 1 1):=fun o=>(Keeps.alloc w4 o).cell x1 (fun e=>e)
        have HOA:=Lib.hid (HS4.out.own.alloc (.cells #[.int .i64 46] 3))
        clear hy0
        go_wp2_with (at_builtin;refine wpList_append_one _ _ rfl rfl wo.heap.size (.slice (some ⟨tb,0,none⟩) 1 1) [a] (by rfl) (by exact HOA.out) _ 1 46 (by rfl) (by simp[World.cell?_alloc_new]) (by simp) (by have:=HS4.out.keep.size;simp;omega) ?_;intro v6 w6 ho6 hg6 hv6;obtain⟨p6,n6,q6,rfl⟩:=row_slice ho6;have hm6:=Lib.hid (first_more HS4.out ho6 hg6 hv6 ((Below.refl _ _).alloc (Nat.le_refl _) _));have c6:w6.cell? ⟨mb,1,none⟩=some (.slice (some ⟨tb,0,none⟩) 1 1):=hm6.out.2.1;have f6:w6.frozen? ⟨mb,1,none⟩=false:=hm6.out.2.2)
        go_meet
        exact⟨_,[a]++[46],_,rfl,HMA2,hm6.out.1⟩
       ·have e1:(y==0)=false:=by simp[hy0]
        clear hy0
        go_wp2_with fail
        go_meet
        exact⟨_,[a],_,rfl,HMA,HS4⟩
      case rest =>
       obtain⟨u,tl,r5,rfl,hmt,hms⟩:=hcut
       clear HS4
       obtain⟨pu,cu,hu,_⟩:=hms.out.own.inn
       subst hu
       obtain⟨z,hz⟩:∃z,nextV r5 3=z:=⟨_,rfl⟩
       have HZ:=Lib.hid hz
       clear hz
       go_wp2_with fail
       refine(next_at gs r5 3 z _ hms.out.src (by omega) (by omega) HZ).mono ?_
       rintro e w6 ⟨rfl,hs6,hg6⟩
       have HS6:=Lib.hid (hms.out.step (next_keeps hg6) hs6)
       have HP6:=Lib.hid (HPO.out.step HS6.out.keep HS6.out.src)
       clear hs6 hg6 hms
       by_cases hz0:0<z
       ·have htl:tl.length≤1000:=by have:=hmt.out.facts.2.1;omega
        have x0:=HS6.out.c0
        have x1:=HS6.out.c1
        have x8:w6.cell? ⟨g,8,none⟩=some v8:=by have:=(HP6.out.box 8 (by omega)).1;rwa[upd_other _ _ (by omega),upd_same]at this
        have x81:∀o,(w6.alloc o).cell? ⟨g,8,none⟩=some v8:=fun o=>(Keeps.alloc w6 o).cell x8 (fun e=>e)
        have HQa:=Lib.hid (World.ownsRow.alloc HP6.out.hot.own (.cells #[.int .i64 c,.slice pu tl.length cu] 73))
        have HTO:=Lib.hid ((HS6.out.inO htl).weak (Q:=fun b=>w1.heap.size≤b∧v8.ownBlock≠some b) (fun b _ hb=>⟨by have:=HPO.out.size;omega,fun e=>by have:=(HPO.out.own b e).2;omega⟩))
        have HQl:Hid (Q.length≤1000):=HLEN.out.1
        clear htl
        go_upto_region 9 with(fail)
        go_region_law
         (refine step_append_map (by rfl) _ _ (by rfl) w1.heap.size v8 Q (by rfl) (by exact HQa.out) _ 1 ((c,tl),.slice pu tl.length cu) (by rfl) (by simp[World.cell?_alloc_new]) (by simp[World.cell?_alloc_new]) rfl HQl.out (by have:=HP6.out.size;simp;omega) ?_
          intro v9 w9 ho9 hg9 hv9
          obtain⟨p9,n9,q9,rfl⟩:=row_slice ho9
          have hm9:=Lib.hid (HP6.out.addQ HTO.out ho9 hg9 hv9 ((Below.refl w6.heap.size w6).alloc (Nat.le_refl _) _).drew)
          have y9:=hm9.out.2.1
          have z9:=hm9.out.2.2)
        all_goals
         have HP9:=Lib.hid hm9.out.1
         obtain⟨s1,s2⟩:=HP9.out.cellS k hk28
         clear ho9 hg9 hv9 hm9 y9 z9
         go_wp2_with fail
         go_meet
         exact⟨_,_,_,_,HP9.out.setSt k,HMT.out _ _ hmt.out⟩
       ·go_wp2_with fail
        go_meet
        exact⟨v8,Q,sl,_,HP6,.inl ⟨rfl,rfl⟩⟩
    case rest =>
     obtain⟨v8',Q',sl',r4,hps2,hst2⟩:=hcut
     clear hps
     have HF:=HMS.out Q' sl' hst2.out
     have HF1:=Lib.hid HF.1
     have HF2:=Lib.hid HF.2
     obtain⟨s1,s2⟩:=hps2.out.cellS k hk28
     obtain⟨xv,hxv⟩:∃x,sl'.getD k 0=x:=⟨_,rfl⟩
     rw[hxv]at s1 HF1
     obtain⟨pv,cv,hv5,hin5,_⟩:=hps2.out.sp.1
     subst hv5
     have hb5:=hps2.out.box 5 (by omega)
     rw[upd_same]at hb5
     have HA:=Lib.hid (add_any g 5 pv S.length cv S (c,c,0) xv wc.drew hb5.1 hb5.2 hin5 rfl HLEN.out.2)
     clear HF hst2 hxv hb5 hin5 s2
     go_upto_region 11 with(fail)
     go_region_law
      (go_simp
       go_at_call 34
       refine HA.out.mono ?_
       rintro e w5 ⟨rfl,v,hsets,hsv,hlies⟩
       have HP5:=Lib.hid (hps2.out.addS (w':=w5) ⟨hsets.cell,⟨hsets.keep.os,hsets.keep.tape,hsets.keep.output,hsets.keep.size,hsets.keep.block⟩,hsets.froz,hsets.rest⟩ hsv hlies))
     all_goals
      clear hsets hsv hlies
      go_wp2
      go_roundw
      case rel=>exact⟨k+1,_,_,_,_,_,_,by omega,by go_num,HP5,HF1,HF2⟩
      case measure=>simp[intOf];omega
  ·obtain rfl:k=28:=by omega
   go_wp2
   go_end0
   exact PSt.done HBL.out hd.out hok.out
end Go.Proofs.YtblcoicaeeiojaaGreatDoor
