/- Rows of mappings and of  -/
import Derived.Test.YtblcoicaeeiojaaGreatDoorSOaPmTblMem
import Derived.Test.YtblcoicaeeiojaaGreatDoorSOaPmAlaB
set_option linter.all false
set_option maxHeartbeats 4000000
set_option maxRecDepth 100000
open Go.Proofs.Tryz
namespace Go.Proofs.YtblcoicaeeiojaaGreatDoor
open Go.RowKit
theorem infoMap:(prog.info? 73).map (λi=>(i.zero,i.size,i.bytes))=some (some (.agg #[.int .i64 0,.slice none 0 0]),2,32):=Ax
abbrev Mq:=Mp × Value
def CV:List Mq->List Value
 | []=>[]
 | q::r => .int .i64 q.1.1::q.2::CV r
theorem Abw(l:List Mq):(CV l).length=l.length*2:=by
 induction l with
 | nil=>rfl
 | cons s r b=>simp only[CV,BB,b];omega
theorem Abv(a b:List Mq):CV (a++b)=CV a++CV b:=by
 induction a with
 | nil=>rfl
 | cons s r c=>simp[CV,c]
theorem VN(l:List Mq)(k:Nat)(q:Mq)(h:l[k]? = some q):(CV l)[k*2]? = some (.int .i64 q.1.1)/\(CV l)[k*2+1]? = some q.2:=by
 induction l generalizing k with
 | nil=>simp at h
 | cons s r b =>
  cases k with
  | zero=>simp at h;subst h;simp[CV]
  | succ k =>
   have:=b k Co;rw[show (k+1)*2=k*2+1+1 by omega];simpa[CV] using this
structure Fh (w:World) (B:Nat) (P:Nat->Prop) (v:Value) (Q:List Mq):Prop where
 own:w.ownsRow B 73 2 v Q.length (CV Q)
 bo:∀q∈Q,CU w P q.2 q.1.2
theorem Fh.nil(w:World)(B:Nat)(P:Nat->Prop):Fh w B P (.slice none 0 0) []:=⟨PF _ _ _ _,J⟩
theorem Fh.keeps{w w':World}{B:Nat}{P R:Nat->Prop}{v:Value}{Q:List Mq}(h:Fh w B P v Q)(b:Ad w w' R)(c:∀k,v.ownBlock=some k->¬R k)(e:∀k,k<w.heap.size->R k->¬P k):Fh w' B P v Q:=
 ⟨b.owns h.own c,λq m=>(h.bo q m).keeps b e⟩
theorem Fh.aq{w:World}{B:Nat}{P Q:Nat->Prop}{v:Value}{L:List Mq}(h:Fh w B P v L)(c:∀b,b<w.heap.size->P b->Q b):Fh w B Q v L:=⟨h.own,λq e=>(h.bo q e).aq c⟩
theorem Fh.slice{w:World}{B:Nat}{P:Nat->Prop}{v:Value}{Q:List Mq}(h:Fh w B P v Q):∃p c,v=.slice p Q.length c:=by
 rcases h.own.2 with⟨rfl,b⟩|⟨g,cap,e,rfl,_⟩
 ·exact⟨none,0,by rw[b]⟩
 ·exact⟨_,cap,rfl⟩
theorem T9{w:World}{B:Nat}{t:TypeId}{z:Nat}{v:Value}{n:Nat}{xs:List Value}(h:w.ownsRow B t z v n xs):∃p n c,v=.slice p n c:=by
 rcases h.2 with⟨rfl,b⟩|⟨g,cap,e,rfl,_⟩
 ·exact⟨none,0,0,rfl⟩
 ·exact⟨_,_,cap,rfl⟩
theorem Mv{w:World}{B:Nat}{t:TypeId}{z:Nat}{v:Value}{n:Nat}{xs:List Value}(h:w.ownsRow B t z v n xs){p:Option Addr}{m c:Nat}(e:v=.slice p m c):m<=c:=by
 rcases h.2 with⟨rfl,b⟩|⟨g,cap,k,rfl,_,_,q,_⟩
 ·exact Y7
 ·exact Y7
theorem Fh.cells{w:World}{B:Nat}{P:Nat->Prop}{v:Value}{Q:List Mq}(h:Fh w B P v Q)(k:Nat)(m:k<Q.length):∃g cap q,v=.slice (some ⟨g,0,none⟩) Q.length cap/\Q[k]? = some q/\q∈Q/\v.ownBlock=some g/\w.cell? ⟨g,k*2,none⟩=some (.int .i64 q.1.1)/\w.cell? ⟨g,k*2+1,none⟩=some q.2:=by
 rcases h.own.2 with⟨rfl,ac⟩|⟨g,cap,s,rfl,ad,A,am,a9,a',C⟩
 ·omega
 ·obtain⟨q,b⟩:∃q,Q[k]? = some q:=⟨_,CI m⟩;obtain⟨F,G⟩:=VN Q k q b;have c:∀j u,j<Q.length*2->(CV Q)[j]? = some u->w.cell? ⟨g,j,none⟩=some u:=by
   intro j u L e;rw[Es w g j s _ (0,0) A];rw[<-C,Eu,N L]at e;simpa using e
  exact⟨g,cap,q,rfl,b,List.mem_of_getElem? b,rfl,c _ _ O F,c _ _ O G⟩
theorem Fh.bK{w:World}{B:Nat}{P Z:Nat->Prop}{v:Value}{Q:List Mq}(h:Fh w B P v Q)(a':Q.length<=1000)(A:∀b,b<w.heap.size->P b->Z b)(C:∀b,B<=b->b<w.heap.size->Z b):Di w Z v (Q.map (·.1)):=by
 obtain⟨p,c,m⟩:=h.slice;refine⟨p,c,by rw[m];simp,λb ff n c e=>?_,Ae,λk F=>?_⟩
 ·have:=Bs h.own b KM;exact⟨C b this.1 this.2,this.2⟩
 ·have G:k<Q.length:=by simpa using F
  obtain⟨g,cap,q,e,L,ac,_,ad,am⟩:=h.cells k G;rw[m]at e;injection e with e _ _;have a9:(Q.map (·.1)).getD k Ay=q.1:=by
   rw[Cz,Gg,L];rfl
  rw[a9];have s:=(h.bo q ac).aq A;exact⟨g,0,q.2,e,by simpa using ad,by simpa using am,s.1,s.2⟩
theorem CU.one{w:World}{P:Nat->Prop}{v:Value}{l:List Int}(h:CU w P v l):v.oneCell'=true:=by
 obtain⟨⟨p,c,rfl,_⟩,_⟩:=h;rfl
theorem Yf{w: World}{ops: Array Oper}{o: Oper}{a: Act}{K: Act->World->Prop}{Z: Exit->Act->World->Prop}{E: Prop}(cA: o.guard = none)(s x: Operand)
  (m:o.op=.call { callee:=.builtin .append,args:=#[s,x],argTypes:=#[24,24]})
  (base:Nat) (v:Value) (Q:List Mq) (A:a.eval s=v) (C:w.ownsRow base 73 2 v Q.length (CV Q))
  (b c:Nat) (q:Mq) (F:a.eval x=.slice (some ⟨b,0,none⟩) 1 c) (G:w.cell? ⟨b,0,none⟩=some (.int .i64 q.1.1)) (L:w.cell? ⟨b,1,none⟩=some q.2) (ac:q.2.oneCell'=true)
  (bv:Q.length<=1000) (ad:base<=w.heap.size)
  (h:∀k w',w'.ownsRow base 73 2 k (Q++[q]).length (CV (Q++[q]))->w.grownBy w' v.ownBlock->(k.ownBlock=v.ownBlock\/k.ownBlock=some w.heap.size)->K (a.put o.dst k) w') :
  if Region.wanted o (yielded ops a.tmps)=true then Oper.wp prog o a w K Z else E:=by
 have am:Region.wanted o (yielded ops a.tmps)=true:=Pn;rw[N am];obtain⟨a9,dI,a',ba,bb⟩:=Cp infoMap;have bc:∀j u,(CV [q])[j]? = some u->w.cell? ((⟨b,0,none⟩:Addr).add j)=some u:=by
  intro j u e;rw[GI];rcases j with _|_|j
  ·simp only[CV,Oa,FI]at e;subst e;exact G
  ·simp only[CV,N',Oa,FI]at e;subst e;exact L
  ·simp[CV]at e
 have bd:∀u∈CV [q],u.oneCell'=true:=by
  intro u e;simp only[CV,AX,CT,C7]at e;rcases e with rfl|rfl
  ·rfl
  ·exact ac
 obtain⟨k,w',be,bl,bs,_,bt⟩:=run_append_own_at (P:=prog) w base 24 o.type 73 a9 _ 2 32 underlying24 dI a' ba bb rfl Aw v Q.length _ C
  ⟨b,0,none⟩ 1 c (CV [q]) rfl bc bd BQ O ad
 unfold Oper.wp execOp;simp only[m,resolve,invoke,builtin,PC,PD,PA,Oc,BH,Eg,A,F,be];exact h k w' (by rw[Bc,Abv];exact bl) bs bt
theorem Yg{w: World}{ops: Array Oper}{o: Oper}{a: Act}{K: Act->World->Prop}{Z: Exit->Act->World->Prop}{E: Prop}(cA: o.guard = none)(s x: Operand)
  (cq:o.op=.call { callee:=.builtin .append,args:=#[s,x],argTypes:=#[22,22]})
  (base:Nat) (v:Value) (xs:List Int) (b2:a.eval s=v) (e:Ak w base v xs)
  (b c:Nat) (z:Int) (b3:a.eval x=.slice (some ⟨b,0,none⟩) 1 c) (k:w.cell? ⟨b,0,none⟩=some (.int .i64 z))
  (ac:xs.length<=1000) (m:base<=w.heap.size)
  (h:∀fa w',Ak w' base fa (xs++[z])->w.grownBy w' v.ownBlock->(fa.ownBlock=v.ownBlock\/fa.ownBlock=some w.heap.size)->K (a.put o.dst fa) w') :
  if Region.wanted o (yielded ops a.tmps)=true then Oper.wp prog o a w K Z else E:=by
 have q:Region.wanted o (yielded ops a.tmps)=true:=Pn;rw[N q];obtain⟨A,dI,C,F,G⟩:=Cp info3;have L:∀j u,([Value.int .i64 z])[j]? = some u->w.cell? ((⟨b,0,none⟩:Addr).add j)=some u:=by
  intro j u en;rw[GI];rcases j with _|j
  ·simp only[Oa,FI]at en;subst en;exact k
  ·simp at en
 obtain⟨fa,w',lw,be,cD,_,eB⟩:=run_append_own_at (P:=prog) w base 22 o.type 3 A _ 1 8 underlying22 dI C F G rfl Aw v xs.length _ e
  ⟨b,0,none⟩ 1 c [Value.int .i64 z] rfl L UC BQ O m
 exact AvD
theorem Ag'{w: World}{ops: Array Oper}{k: List Oper}{o: Oper}{a: Act}{Q: Exit->Act->World->Prop}(s x: Operand)
  (q:o.op=.call { callee:=.builtin .append,args:=#[s,x],argTypes:=#[22,22]})
  (cA:o.guard=none)
  (base:Nat) (v:Value) (xs:List Int) (A:a.eval s=v) (C:Ak w base v xs)
  (b c:Nat) (z:Int) (F:a.eval x=.slice (some ⟨b,0,none⟩) 1 c) (G:w.cell? ⟨b,0,none⟩=some (.int .i64 z))
  (L:xs.length<=1000) (ac:base<=w.heap.size)
  (h:∀e w',Ak w' base e (xs++[z])->w.grownBy w' v.ownBlock->(e.ownBlock=v.ownBlock\/e.ownBlock=some w.heap.size)->wpList prog ops Q k (a.put o.dst e) w'):wpList prog ops Q (o::k) a w:=by
 unfold wpList;have m:Region.wanted o (yielded ops a.tmps)=true:=Pn;rw[N m];refine .inl ?_;have:=Yg (w:=w) (ops:=ops) (o:=o) (a:=a) (K:=λad w'=>wpList prog ops Q k ad w') (Z:=Q) (E:=True) cA s x q base v xs A C b c z F G L ac h;rwa[N m]at this
theorem Ad.bO{W w1:World}{R:Nat->Prop}(h:Ad W.drew w1 R):Ad W w1 R:=⟨h.os,h.tape,h.output,h.size,h.block⟩
theorem Bd.drew{w:World}{g:Nat}{r:List Int}(h:Bd w g r):Bd w.drew g r:=h.keeps (R:=λ_=>False) ⟨rfl,rfl,rfl,Ac _,λ_ _ _=>rfl⟩ (λ_ _ e=>e)
structure Ew (w0 w:World) (gs g:Nat) (f:Nat->Value) (v9 v10:Value) (Q:List Mq) (E:List Int) (r:List Int):Prop where
 src:Bd w gs r
 box:BI w g (AD (AD f 9 v9) 10 v10)
 aw:Fh w w0.heap.size (λb=>w0.heap.size<=b/\v9.ownBlock≠some b/\v10.ownBlock≠some b) v9 Q
 af:Ak w w0.heap.size v10 E
 apart:∀b,v9.ownBlock=some b->v10.ownBlock≠some b
 ar:Ad w0 w (λb=>b=gs\/b=g)
 ord:gs<g/\g<w0.heap.size
theorem Rm{A:Type}(f:Nat->A)(i:Nat)(v:A)(h:f i=v):AD f i v=f:=by
 funext j;unfold AD;split
 ·rename_i e;rw[e,h]
 ·rfl
theorem Ro{A:Type}(f:Nat->A)(i:Nat)(v u:A):AD (AD f i v) i u=AD f i u:=by
 funext j;unfold AD;split<;>rfl
theorem Uu{A:Type}(f:Nat->A)(i k:Nat)(v u:A)(h:i≠k):AD (AD f i v) k u=AD (AD f k u) i v:=by
 funext j;unfold AD;by_cases b:j=k
 ·rw[N b,V O,N b]
 ·rw[V b];by_cases c:j=i
  ·rw[N c,N c]
  ·rw[V c,V c,V b]
section
variable {w0 w w1 w':World} {gs g:Nat} {f:Nat->Value} {v9 v10:Value} {Q:List Mq} {E r r':List Int}
theorem Ew.size(h:Ew w0 w gs g f v9 v10 Q E r):w0.heap.size<=w.heap.size:=h.ar.size
theorem Ew.step(h:Ew w0 w gs g f v9 v10 Q E r)(k:Ad w w' (λb=>b=gs))(m:Bd w' gs r'):Ew w0 w' gs g f v9 v10 Q E r':=by
 have q:=h.ord;have s:=λb c=>Bs h.aw.own b c;have A:=λb c=>Bs h.af b c;exact⟨m,h.box.keeps k O,h.aw.keeps k (λb c e=>by have:=s b c;omega) (λb c e C=>O),k.owns h.af (λb c e=>by have:=A b c;omega),h.apart,h.ar.trans k (λ_ _ e=>e) (λ_ _ e=>.inl e),q⟩
theorem Ew.below(h:Ew w0 w gs g f v9 v10 Q E r)(c:Below w.heap.size w w'):Ew w0 w' gs g f v9 v10 Q E r:=
 h.step ((Ad.av c).aq (λb c e=>O)) (h.src.below c)
theorem Ew.start(e:Bd w gs r)(c:BI w g f)(h:f 9=.slice none 0 0)(k:f 10=.slice none 0 0)(m:gs<g):Ew w w gs g f (.slice none 0 0) (.slice none 0 0) [] [] r:=
 ⟨e,by rw[Rm _ _ _ h,Rm _ _ _ k];exact c,Fh.nil _ _ _,Ak.nil _ _,(by intro b c;cases c),Ad.refl _ _,⟨m,c.lt⟩⟩
theorem Ew.cM{v:Value}{z:Int}(h:Ew w0 w gs g f v9 v10 Q E r)(ac:Ak w' w0.heap.size v (E++[z]))(am:w1.grownBy w' v10.ownBlock)(dH:v.ownBlock=v10.ownBlock\/v.ownBlock=some w1.heap.size)(ad:Below w.heap.size w w1):Ew w0 (w'.setCell ⟨g,10,none⟩ v) gs g f v9 v Q (E++[z]) r/\w'.cell? ⟨g,10,none⟩=some v10/\w'.frozen? ⟨g,10,none⟩=false/\Ad w (w'.setCell ⟨g,10,none⟩ v) (λb=>v10.ownBlock=some b\/b=g)/\∀u l,CU w (λb=>w0.heap.size<=b/\v9.ownBlock≠some b/\v10.ownBlock≠some b) u l->CU (w'.setCell ⟨g,10,none⟩ v) (λb=>w0.heap.size<=b/\v9.ownBlock≠some b/\v.ownBlock≠some b) u l:=by
 have a9:=h.ord;have bb:=ad.size;have bc:=h.size;have A:=λb ad=>Bs h.aw.own b ad;have m:=λb ad=>Bs h.af b ad;have C:Ad w w' (λb=>v10.ownBlock=some b):=(Ad.av ad).trans (Ad.aC am) (λb ad e=>O) (λ_ _ e=>e);have F:=Ad.store w' g 10 v;have c:Ad w (w'.setCell ⟨g,10,none⟩ v) (λb=>v10.ownBlock=some b\/b=g):=C.trans F (λ_ _ e=>.inl e) (λ_ _ e=>.inr e);have G:¬v10.ownBlock=some g:=λe=>by have:=m g e;omega
 have q:=h.box.keeps C G;have iT:∀b,b<w.heap.size->v10.ownBlock≠some b->v.ownBlock≠some b:=UT;have a':v.ownBlock≠some g:=iT g O G;have L:w'.cell? ⟨g,10,none⟩=some v10:=by have:=(q 10 O).1;rwa[EJ]at this
 refine⟨⟨h.src.keeps c (λb ad e=>?_),?_,?_,F.owns ac (λb ad e=>a' (by rw[ad,e])),λb ad=>iT b (A b ad).2 (h.apart b ad),h.ar.trans c (λ_ _ e=>e) (λb ad e=>?_),a9⟩,L,(q 10 O).2,c,λu l ba=>?_⟩
 ·rcases e with e|e
  ·have:=m b e;omega
  ·omega
 ·have:=q.aA (Cr.store w' g 10 v _ L);rwa[Ro]at this
 ·have s:=h.aw.aq (Q:=λb=>(w0.heap.size<=b/\v9.ownBlock≠some b/\v10.ownBlock≠some b)/\b<w.heap.size) (λb ad e=>⟨e,ad⟩);have be:=s.keeps c (λb ad e=>by
   rcases e with e|e
   ·exact h.apart b ad e
   ·have:=A b ad;omega) (λb ad e k=>by
   rcases e with e|e
   ·exact k.1.2.2 e
   ·have:=k.1.1;omega)
  exact Aw7
 ·rcases e with e|e
  ·have:=m b e;omega
  ·exact .inr e
 ·have s:=ba.aq (Q:=λb=>(w0.heap.size<=b/\v9.ownBlock≠some b/\v10.ownBlock≠some b)/\b<w.heap.size) (λb ad e=>⟨e,ad⟩);have be:=s.keeps c (λb ad e k=>by
   rcases e with e|e
   ·exact k.1.2.2 e
   ·have:=k.1.1;omega)
  exact Aw7
theorem Ew.bg{v:Value}{q:Mq}(h:Ew w0 w gs g f v9 v10 Q E r)(dO:CU w (λb=>w0.heap.size<=b/\v9.ownBlock≠some b/\v10.ownBlock≠some b) q.2 q.1.2)(am:w'.ownsRow w0.heap.size 73 2 v (Q++[q]).length (CV (Q++[q])))(a9:w1.grownBy w' v9.ownBlock)(dH:v.ownBlock=v9.ownBlock\/v.ownBlock=some w1.heap.size)(ad:Below w.heap.size w w1):Ew w0 (w'.setCell ⟨g,9,none⟩ v) gs g f v v10 (Q++[q]) E r/\w'.cell? ⟨g,9,none⟩=some v9/\w'.frozen? ⟨g,9,none⟩=false:=by
 have a':=h.ord;have bl:=ad.size;have bs:=h.size;have k:=λb ad=>Bs h.aw.own b ad;have A:=λb ad=>Bs h.af b ad;have C:Ad w w' (λb=>v9.ownBlock=some b):=(Ad.av ad).trans (Ad.aC a9) (λb ad e=>O) (λ_ _ e=>e);have F:=Ad.store w' g 9 v;have c:Ad w (w'.setCell ⟨g,9,none⟩ v) (λb=>v9.ownBlock=some b\/b=g):=C.trans F (λ_ _ e=>.inl e) (λ_ _ e=>.inr e);have G:¬v9.ownBlock=some g:=λe=>by have:=k g e;omega
 have m:=h.box.keeps C G;have s:∀b,b<w.heap.size->v9.ownBlock≠some b->v.ownBlock≠some b:=UT;have ba:v.ownBlock≠some g:=s g O G;have L:w'.cell? ⟨g,9,none⟩=some v9:=by have:=(m 9 O).1;rwa[EI _ _ O,EJ]at this
 have fM:∀u l,CU w (λb=>w0.heap.size<=b/\v9.ownBlock≠some b/\v10.ownBlock≠some b) u l->CU (w'.setCell ⟨g,9,none⟩ v) (λb=>w0.heap.size<=b/\v.ownBlock≠some b/\v10.ownBlock≠some b) u l:=by
  intro u l bb;have bc:=bb.aq (Q:=λb=>(w0.heap.size<=b/\v9.ownBlock≠some b/\v10.ownBlock≠some b)/\b<w.heap.size) (λb ad e=>⟨e,ad⟩);have bd:=bc.keeps c (λb ad e ac=>by
   rcases e with e|e
   ·exact ac.1.2.1 e
   ·have:=ac.1.1;omega)
  exact bd.aq (λb ad e=>⟨e.1.1,s b e.2 e.1.2.1,e.1.2.2⟩)
 refine⟨⟨h.src.keeps c (λb ad e=>?_),?_,⟨F.owns am (λb ad e=>ba (by rw[ad,e])),?_⟩,c.owns h.af (λb ad e=>?_),?_,h.ar.trans c (λ_ _ e=>e) (λb ad e=>?_),a'⟩,L,(m 9 O).2⟩
 ·rcases e with e|e
  ·have:=k b e;omega
  ·omega
 ·have:=m.aA (Cr.store w' g 9 v _ L);rwa[Uu f 9 10 v9 v10 O,Ro,Uu f 10 9 v10 v O]at this
 ·exact Ajr
 ·rcases e with e|e
  ·exact h.apart b e ad
  ·have:=A b ad;omega
 ·intro b ad e;exact s b (A b e).2 (λbe=>h.apart b be e) ad
 ·rcases e with e|e
  ·have:=k b e;omega
  ·exact .inr e
end
structure Dh (B:Nat) (wr w:World) (gs mb:Nat) (fr:Int) (u:Value) (tl r:List Int):Prop where
 src:Bd w gs r
 c0:w.cell? ⟨mb,0,none⟩=some (.int .i64 fr)
 c1:w.cell? ⟨mb,1,none⟩=some u
 f1:w.frozen? ⟨mb,1,none⟩=false
 own:Ak w B u tl
 ne:u.ownBlock≠some mb
 ar:Ad wr w (λb=>b=gs)
 ord:B=wr.heap.size/\B<=mb/\gs<B
section
variable {wr w w':World} {B gs mb tb:Nat} {fr a:Int} {u:Value} {tl r r':List Int}
theorem Dh.lt(h:Dh B wr w gs mb fr u tl r):mb<w.heap.size:=AN w _ h.c0
theorem Dh.step(h:Dh B wr w gs mb fr u tl r)(c:Ad w w' (λb=>b=gs))(q:Bd w' gs r'):Dh B wr w' gs mb fr u tl r':=by
 have s:=h.ord;have k:mb≠gs:=O;have A:=λb m=>Bs h.own b m;exact⟨q,c.cell h.c0 k,c.cell h.c1 k,(EN (a:=⟨mb,1,none⟩) (c.block mb h.lt k)).trans h.f1,c.owns h.own (λb m e=>by have:=A b m;omega),h.ne,h.ar.trans c (λ_ _ e=>e) (λ_ _ e=>e),s⟩
theorem Fx(h:w.grownBy w' (some gs)):Ad w w' (λb=>b=gs):=(Ad.aC h).aq (λb _ e=>YP)
theorem Aoa(w:World)(a:Int)(B:Nat)(b:B<=w.heap.size):Ak (w.alloc (.cells #[.int .i64 a] 3)) B (.slice (some ⟨w.heap.size,0,none⟩) 1 1) [a]:=
 N9 (base:=B) (e:=3) (size:=1) w #[.int .i64 a] 1 b BQ rfl
theorem Dh.new(h:Ad wr w (λb=>b=gs))(m:Bd w gs r)(q:gs<wr.heap.size):Dh wr.heap.size wr ((w.alloc (.cells #[.int .i64 a] 3)).alloc (.cells #[.int .i64 fr,.slice (some ⟨w.heap.size,0,none⟩) 1 1] 73)) gs (w.heap.size+1) fr (.slice (some ⟨w.heap.size,0,none⟩) 1 1) [a] r:=by
 have s:=h.size;have c:(w.alloc (.cells #[.int .i64 a] 3)).heap.size=w.heap.size+1:=J;have A:=(Al w.heap.size w).alloc (Ac _) (.cells #[.int .i64 a] 3);have k:=A.alloc O (.cells #[.int .i64 fr,.slice (some ⟨w.heap.size,0,none⟩) 1 1] 73);refine⟨m.below k,?_,?_,?_,(Aoa w a _ s).alloc _,?_,h.trans (Ad.av k) (λ_ _ e=>e) (λb C e=>O),rfl,O,q⟩
 ·rw[<-c];simp[Cy]
 ·rw[<-c];simp[Cy]
 ·rw[<-c];simp
 ·intro e;injection e with e;simp at e
theorem Dh.row(h:Dh B wr w gs mb fr (.slice (some ⟨tb,0,none⟩) 1 1) [a] r):w.cell? ⟨tb,0,none⟩=some (.int .i64 a):=by
 obtain⟨p,c,e,b⟩:=h.own.ap;obtain⟨q,s,k,m⟩:=b 0 J;cases e;cases k;exact m
theorem Dh.free(h:Dh B wr w gs mb fr (.slice (some ⟨tb,0,none⟩) 1 1) [a] r):w.frozen? ⟨tb,0,none⟩=false:=MO (g:=tb) (cap:=1) (n:=1) h.own 0
theorem Dh.b_(h:Dh B wr w gs mb fr (.slice (some ⟨tb,0,none⟩) 1 1) [a] r)(b:Int):Dh B wr (w.setCell ⟨tb,0,none⟩ (.int .i64 b)) gs mb fr (.slice (some ⟨tb,0,none⟩) 1 1) [b] r:=by
 have s:=Bs h.own tb rfl;have m:=h.ord;have c:=Ad.store w tb 0 (.int .i64 b);have k:mb≠tb:=λe=>h.ne KM;exact⟨h.src.keeps c (λj q e=>O),c.cell h.c0 k,c.cell h.c1 k,(EN (a:=⟨mb,1,none⟩) (c.block mb h.lt k)).trans h.f1,(PE (g:=tb) (n:=1) h.own 0 (.int .i64 b)).1,h.ne,h.ar.trans c (λ_ _ e=>e) (λj q e=>O),m⟩
theorem Dh.bB(h:Dh B wr w gs mb fr u tl r)(m:tl.length<=1000):CU w (λb=>B<=b) u tl:=by
 obtain⟨p,c,rfl,k⟩:=h.own.ap;exact⟨⟨p,c,rfl,k,O⟩,λb ff n c e=>Bs h.own b KM⟩
theorem Dh.more{v:Value}{b:Int}{w1:World}(h:Dh B wr w gs mb fr u tl r)(c:Below w.heap.size w w1)(G:Ak w' B v (tl++[b]))(L:w1.grownBy w' u.ownBlock)(m:v.ownBlock=u.ownBlock\/v.ownBlock=some w1.heap.size):Dh B wr (w'.setCell ⟨mb,1,none⟩ v) gs mb fr v (tl++[b]) r:=by
 have s:=λb c=>Bs h.own b c;have ac:=h.ord;have ad:=h.lt;have bb:=c.size;have q:Ad w w' (λb=>u.ownBlock=some b):=(Ad.av c).trans (Ad.aC L) (λb c e=>O) (λ_ _ e=>e);have A:=Ad.store w' mb 1 v;have C:Ad w (w'.setCell ⟨mb,1,none⟩ v) (λb=>u.ownBlock=some b\/b=mb):=q.trans A (λ_ _ e=>.inl e) (λ_ _ e=>.inr e);have F:v.ownBlock≠some mb:=by
  intro e;rcases m with m|m
  ·exact h.ne (by rw[<-m,e])
  ·rw[m]at e;injection e with e;omega
 have am:w'.cell? ⟨mb,0,none⟩=some (.int .i64 fr):=q.cell h.c0 h.ne;have a9:w'.cell? ⟨mb,1,none⟩=some u:=q.cell h.c1 h.ne;refine⟨h.src.keeps C (λj a' e=>?_),(AY _ ⟨mb,1,none⟩ ⟨mb,0,none⟩ _ J).trans am,E7 _ _ _ a9,?_,A.owns G (λk ba e=>F (by rw[ba,e])),F,h.ar.trans C (λ_ _ e=>e) (λj a' e=>?_),ac⟩
 ·rcases e with e|e
  ·have:=s j e;omega
  ·omega
 ·rw[DC];exact(EN (a:=⟨mb,1,none⟩) (q.block mb ad h.ne)).trans h.f1
 ·rcases e with e|e
  ·have:=s j e;omega
  ·omega
theorem AcN{v:Value}{b:Int}{w1:World}(h:Dh B wr w gs mb fr u tl r)(q:Ak w' B v (tl++[b]))(k:w1.grownBy w' u.ownBlock)(s:v.ownBlock=u.ownBlock\/v.ownBlock=some w1.heap.size)(c:Below w.heap.size w w1):Dh B wr (w'.setCell ⟨mb,1,none⟩ v) gs mb fr v (tl++[b]) r/\w'.cell? ⟨mb,1,none⟩=some u/\w'.frozen? ⟨mb,1,none⟩=false:=by
 have A:=c.size;have m:Ad w w' (λb=>u.ownBlock=some b):=(Ad.av c).trans (Ad.aC k) (λb c e=>O) (λ_ _ e=>e);exact⟨h.more c q k s,m.cell h.c1 h.ne,(EN (a:=⟨mb,1,none⟩) (m.block mb h.lt h.ne)).trans h.f1⟩
end
def AaA(gs g:Nat)(f:Nat->Value)(w:World)(e:Ending)(w':World):Prop:=
 e=.returned (.tuple #[])/\∃r v9 v10 D E,Ff 5 D E/\Bd w' gs r/\BI w' g (AD (AD f 9 v9) 10 v10)/\Di w' (λb=>w.heap.size<=b) v9 D/\CU w' (λb=>w.heap.size<=b) v10 E/\Ad w w' (λb=>b=gs\/b=g)/\∀p n c,v9=.slice p n c->n<=c
theorem Ak.bB{w:World}{B:Nat}{v:Value}{l:List Int}(h:Ak w B v l)(m:l.length<=1000):CU w (λb=>B<=b) v l:=by
 obtain⟨p,c,rfl,k⟩:=h.ap;exact⟨⟨p,c,rfl,k,O⟩,λb ff n c e=>Bs h b KM⟩
theorem Ew.done{w0 w:World}{gs g:Nat}{f:Nat->Value}{v9 v10:Value}{Q:List Mq}{E r:List Int}(h:Ew w0 w gs g f v9 v10 Q E r)(k:Ff 5 (Q.map (·.1)) E):AaA gs g f w0 (.returned (.tuple #[])) w:=by
 have a':=k.len;have q:=k.bh;refine⟨rfl,r,v9,v10,_,E,k,h.src,h.box,h.aw.bK Aif (λb _ m=>m.1) (λb m _=>m),h.af.bB O,h.ar,λp n c e=>Mv h.aw.own e⟩
theorem Al0(gs g:Nat)(f:Nat->Value)(cD:List Int)(w:World)(cF:Bd w gs cD)(A:BI w g f)(cI:f 9=.slice none 0 0)(cO:f 10=.slice none 0 0)(dX:gs<g):Calls prog 35 #[.pointer (some ⟨gs,0,none⟩),.pointer (some ⟨g,0,none⟩)] w (AaA gs g f w):=by
 have dY:=U (Ew.start cF A cI cO dX);clear cF A cI cO;go_enter func35,ntmps35;go_wp2;go_loopw[4] (λcd wr=>∃(k:Nat) (v9 v10:Value) (Q:List Mq) (E r:List Int),k<=5/\cd=.int .i64 k/\Hid (Ew w wr gs g f v9 v10 Q E r)/\Hid (Ff k (Q.map (·.1)) E)) (λcd _=>5-(intOf cd).toNat)
 case atStart=>exact⟨0,_,_,_,_,cD,O,rfl,dY,Ff.nil⟩
 case round=>
  obtain⟨k,v9,v10,Q,E,r,eN,rfl,m,bx⟩:=hrel;by_cases ce:k<5
  ·obtain⟨x,c2⟩:∃x,AZ r 4=x:=⟨_,rfl⟩;have c3:=U c2;clear c2;by_cases dZ:x=0
   ·subst dZ;go_wp2_with fail;refine(Da gs r 4 0 _ m.out.src O O c3).mono ?_;rintro e w1 ⟨rfl,b0,b1⟩;have d0:=U ((m.out.step ((Ad.aC b1).aq (λb _ e=>YP)) b0));clear b0 b1;go_wp2;go_roundw
    case rel=>exact⟨k+1,_,_,_,_,_,O,An,d0,bx.out.skip⟩
    case measure=>simp[intOf];omega
   ·go_wp2_with fail;refine(Da gs r 4 x _ m.out.src O O c3).mono ?_;rintro e w1 ⟨rfl,b0,b1⟩;have c4:=U ((Ad.aC b1).aq (Q:=λb=>b=gs) (λb _ e=>YP));have c5:=U b0;clear b0 b1;obtain⟨q,bd⟩:∃q,AZ r.tail 2=q:=⟨_,rfl⟩;obtain⟨c6,c7⟩:=DO r.tail 2 O;rw[bd]at c6 c7;have c8:=U bd;clear bd;go_wp2_with fail;refine(Da gs r.tail 2 q _ c5.out O O c8).mono ?_;rintro e w2 ⟨rfl,c9,c'⟩;have cf:=U (c4.out.trans ((Ad.aC c').aq (Q:=λb=>b=gs) (λb _ e=>YP)) (λ_ _ e=>e) (λ_ _ e=>e));have da:=U c9;clear c9 c' c4 c5;go_upto_region 5 with(fail);have d1:gs<wr.heap.size:=m.out.src.lt;have G:=Dh.new (fr:=7680+k) (a:=97+q) cf.out da.out d1;have d2:wr.heap.size<=w2.heap.size:=cf.out.size;generalize ((w2.alloc (.cells #[.int .i64 (97+q)] 3)).alloc (.cells #[.int .i64 (7680+k),.slice (some ⟨w2.heap.size,0,none⟩) 1 1] 73))=W at G|-;have db:w2.heap.size≠w2.heap.size+1:=O;generalize w2.heap.size+1=mb at G db|-;generalize w2.heap.size=tb at G d2 db|-;have b2:=U G;have dc:Hid (Nt k (97+q)):=by unfold Hid Nt;omega
    clear cf da G c6 c7;generalize 97+q=a at b2 dc|-;clear c8;go_cut[29] (λc C=>∃(B:Bool) (r':List Int),c=.bool B/\(B=true->0<k)/\Hid (Dh wr.heap.size wr C gs mb (7680+k) (.slice (some ⟨tb,0,none⟩) 1 1) [a] r'))
    case first=>
     by_cases d3:k=0
     ·subst d3;go_wp2_with fail;go_meet;exact⟨false,_,rfl,J,b2⟩
     ·have d4:0<k:=by omega
      obtain⟨y,df⟩:∃y,AZ r.tail.tail 3=y:=⟨_,rfl⟩;have d5:=U df;clear df;go_wp2_with fail;refine(Da gs r.tail.tail 3 y _ b2.out.src O O d5).mono ?_;rintro e w3 ⟨rfl,dj,dk⟩;have dm:=Fx dk;have d6:=U (b2.out.step dm dj);clear dj dk dm;go_wp2_with fail;go_meet;exact⟨y==0,_,rfl,by intro _;omega,d6⟩
    case rest=>
     obtain⟨B,r3,rfl,d7,G⟩:=hcut;clear b2;go_upto_if 29 with(fail);go_cut[5] (λv C=>∃(dn:Int) (r':List Int),v=.pointer (some ⟨mb,0,none⟩)/\Hid (Nt k dn)/\Hid (Dh wr.heap.size wr C gs mb (7680+k) (.slice (some ⟨tb,0,none⟩) 1 1) [dn] r'))
     case first=>
      cases B with
      | false =>
       go_wp2_with fail;go_meet;exact⟨a,_,rfl,dc,G⟩
      | true =>
       have d4:0<k:=d7 rfl;obtain⟨z,be⟩:∃z,AZ r3 k=z:=⟨_,rfl⟩;obtain⟨d8,d9⟩:=DO r3 k O;rw[be]at d8 d9;have cg:=U be;have d_:Hid (Nt k (7680+z)):=.inr (.inr ⟨z.toNat,O,O⟩);have bl:=G.out.c1;have eO:IntKind.i64.wrap (7680+z)=7680+z:=AT _ O;clear be;go_upto_region 6 with(fail);go_region_law
        (go_simp
         go_at_call 30
         refine(Da gs r3 k z _ G.out.src.drew O O cg).mono ?_
         rintro e ba ⟨rfl,b8,b9⟩
         have b3:=Fx b9
         have F:=Dh.step (w:=wc) G.out ⟨b3.os,b3.tape,b3.output,b3.size,b3.block⟩ b8
         have d':=U F
         have dq:=F.c1
         have ds:=F.row
         have ea:=F.free)
       all_goals
        go_wp2_with fail;go_meet;exact⟨7680+z,_,rfl,d_,d'.out.b_ _⟩
     case rest=>
      obtain⟨a2,r4,rfl,dx,ci⟩:=hcut;clear G;obtain⟨z,be⟩:∃z,AZ r4 8=z:=⟨_,rfl⟩;have cg:=U be;clear be;go_wp2_with fail;refine(Da gs r4 8 z _ ci.out.src O O cg).mono ?_;rintro e ba ⟨rfl,b8,b9⟩;have am:=U (ci.out.step (Fx b9) b8);clear b8 b9 ci;go_upto_if 39 with(fail);go_cut[5] (λv C=>∃(u:Value) (tl r':List Int),v=.pointer (some ⟨mb,0,none⟩)/\Hid (Rj k tl)/\Hid (Dh wr.heap.size wr C gs mb (7680+k) u tl r'))
      case first=>
       by_cases eP:0<z
       ·obtain⟨j,cj⟩:∃j:Nat,AZ r4.tail 5=j:=⟨(AZ r4.tail 5).toNat,by have:=DO r4.tail 5 O;omega⟩;have dy:j<5:=by have:=DO r4.tail 5 O;omega
        have eb:=U cj;obtain⟨b,A⟩:∃b,Ht.getD j 0=b:=⟨_,rfl⟩;have ec:Hid (b∈Ht):=by unfold Hid;rw[<-A];exact Wo _ _ (by simpa[Ht] using dy)
        have dz:∀W:World,(W.alloc (.cells #[.int .i64 769,.int .i64 776,.int .i64 803,.int .i64 837,.int .i64 945] 3)).cell? ⟨W.heap.size,j,none⟩=some (.int .i64 b):=by
         intro W;obtain⟨_,_,e,dE⟩:=CQ W #[.int .i64 769,.int .i64 776,.int .i64 803,.int .i64 837,.int .i64 945] Ht 3 rfl j (by simpa[Ht] using dy);cases e;rw[A]at dE;simpa using dE
        have ed:=dz ba;have bl:=am.out.c1;have ee:=am.out.lt;have ef:∀o,(ba.alloc o).cell? ⟨mb,1,none⟩=some (.slice (some ⟨tb,0,none⟩) 1 1):=λo=>(Ad.alloc ba o).cell bl (λe=>e);have eQ:(j:Int)<5:=O;clear cj A;go_upto_region 8 with(fail);go_region_law (first
         | (refine Yg (by rfl) _ _ (by rfl) wr.heap.size (.slice (some ⟨tb, 0, none⟩) 1 1) [a2] (by rfl) (by first | exact F.own.alloc _ | exact (F.own.alloc _).alloc _) _ 1 b (by rfl) (by simp [Cy]) J (by have := F.ord; have := F.ar.size; simp; omega) ?_
            intro v6 w6 cl b4 dF
            obtain⟨eR,eS,eT,rfl⟩:∃p n q,v6=.slice p n q:=by obtain⟨p,c,e,_⟩:=cl.ap;exact⟨p,_,c,e⟩
            have cm:=U (AcN F cl b4 dF (by first|exact(Al _ _).alloc (Ac _) _|exact((Al _ _).alloc (Ac _) _).alloc J _))
            have eU:w6.cell? ⟨mb,1,none⟩=some (.slice (some ⟨tb,0,none⟩) 1 1):=cm.out.2.1
            have eV:w6.frozen? ⟨mb,1,none⟩=false:=cm.out.2.2)
         | (go_simp
            go_at_call 30
            refine(Da gs r4.tail 5 j _ (by first|exact am.out.src.drew|exact(am.out.src.alloc _).drew) O O eb).mono ?_
            rintro e bs ⟨rfl,eg,co⟩
            have ce:Ad ba bs (λb=>b=gs):=by
             first
              | exact(Fx co).bO
              | exact(Ad.alloc ba _).trans (Fx co).bO (λ_ _ e=>e.elim) (λ_ _ e=>e)
            have F:=am.out.step ce eg
            have dq:=F.c1
            have eW:=F.lt
            have ds:∀o,(bs.alloc o).cell? ⟨mb,1,none⟩=some (.slice (some ⟨tb,0,none⟩) 1 1):=λo=>(Ad.alloc bs o).cell dq (λe=>e)
            have ea:∀o cp,((bs.alloc o).alloc cp).cell? ⟨mb,1,none⟩=some (.slice (some ⟨tb,0,none⟩) 1 1):=λo cp=>(Ad.alloc _ cp).cell (ds o) (λe=>e)
            have eX:=dz bs
            try have eY:bs.cell? ⟨ba.heap.size,j,none⟩=some (.int .i64 b):=co.cell ed (by have:=F.ord;have:=am.out.ar.size;simp;omega)))
        all_goals
         clear cl b4 dF;go_wp2_with fail;go_meet;exact⟨_,[a2]++[b],_,rfl,⟨a2,dx.out,.inr ⟨b,ec.out,rfl⟩⟩,cm.out.1⟩
       ·go_wp2_with fail;go_meet;exact⟨_,[a2],_,rfl,⟨a2,dx.out,.inl rfl⟩,am⟩
      case rest=>
       obtain⟨u,tl,r5,rfl,cq,b'⟩:=hcut;clear am;obtain⟨a9,a',eh,_⟩:=b'.out.own.ap;subst eh;obtain⟨p9,ad,N,dG,rfl⟩:∃p c N,Q.length=N/\v9=.slice p N c:=by obtain⟨p,c,e⟩:=m.out.aw.slice;exact⟨p,c,_,rfl,e⟩
       have ei:Hid (∀b,(Value.slice p9 N ad).ownBlock=some b->b<wr.heap.size):=λb A=>(Bs m.out.aw.own b A).2;have dH:Hid (∀b,v10.ownBlock=some b->b<wr.heap.size):=λb A=>(Bs m.out.af b A).2;have dJ:Hid (w.heap.size<=wr.heap.size):=m.out.size;obtain⟨dK,dL⟩:∃z,AZ r5 6=z:=⟨_,rfl⟩;have ej:=U dL;have bb:=U dG;clear dL dG;go_wp2_with fail;refine(Da gs r5 6 dK _ b'.out.src O O ej).mono ?_;rintro e w6 ⟨rfl,dM,b4⟩;have cr:=U (b'.out.step (Fx b4) dM);have dN:=U (m.out.step cr.out.ar cr.out.src);have eZ:N<=5:=by have dO:=bx.out.len;rw[C6]at dO;have:=bb.out;omega
       have dP:w6.cell? ⟨g,9,none⟩=some (.slice p9 N ad):=by have:=(dN.out.box 9 O).1;rwa[EI _ _ O,EJ]at this
       clear dM b4 b' m;go_wp2;clear dP;go_loopw[6,58] (λek cs C=>∃(j:Nat) (B:Bool),j<=N/\ek=.bool B/\cs=.int .i64 j/\Hid (B=false->∀d∈(Q.take j).map (·.1),d.2≠tl)/\Hid (Dh wr.heap.size wr C gs mb (7680+k) (.slice a9 tl.length a') tl r5.tail)/\Hid (Ew w C gs g f (.slice p9 N ad) v10 Q E r5.tail)) (λ_ cs _=>N-(intOf cs).toNat)
       case atStart=>exact⟨0,dK==0,O,rfl,rfl,by intro _ d m;simp at m,cr,dN⟩
       case round=>
        obtain⟨j,b5,cj,rfl,rfl,ca,s,L⟩:=hrel;by_cases el:j<N
        ·obtain⟨dP,e0,q,ct,bd,dQ,_,cu,em⟩:=L.out.aw.cells j (by rw[bb.out];exact el);injection ct with ct en eo;clear en eo;subst ct;obtain⟨⟨cv,bt⟩,e1⟩:=q;have dR:=L.out.aw.bo _ dQ;simp only at cu em dR;obtain⟨⟨pq,cx,ep,dS,eq⟩,_⟩:=dR;subst ep;have dT:Hid ((Q.take (j+1)).map (·.1)=(Q.take j).map (·.1)++[(cv,bt)]):=by
          unfold Hid;rw[List.take_add_one,bd];simp
         obtain⟨e2,e3,cy,dU⟩:=s.out.own.ap;injection cy with cy _ er;subst cy er;have bl:=s.out.c1;have ee:=s.out.lt;have bv:Below wr.heap.size wr (wr.alloc (.cells #[.int .i64 cv,.slice pq bt.length cx] 73)):=(Al _ _).alloc (Ac _) _;have ef:(wr.alloc (.cells #[.int .i64 cv,.slice pq bt.length cx] 73)).cell? ⟨mb,1,none⟩=some (.slice a9 tl.length a'):=(Ad.alloc _ _).cell bl (λe=>e);have cA:=U (s.out.step ((Ad.av bv).aq (λb A e=>O)) (s.out.src.below bv));have dV:=U (L.out.below bv);have es:=U (Ath pq a9 cx a' bt tl _ (dS.below bv) (dU.below bv) BQ (by have:=cq.out;obtain⟨_,_,h|⟨_,_,h⟩⟩:=this<;>rw[h]<;>simp[maxLen]));have e4:Hid (Q.length=N):=bb;clear s L bl bv dS dU eq bd dQ;cases b5 with
         | true =>
          go_wp2;go_roundw
          case rel=>exact⟨j+1,true,O,rfl,An,by first|exact λe=>absurd e J|exact trivial,cA,dV⟩
          case measure=>simp[intOf];omega
         | false =>
          go_wp2_with fail;refine es.out.mono ?_;rintro e e5 ⟨rfl,cb⟩;have et:=U (cA.out.step ((Ad.av cb).aq (λb A e=>O)) (cA.out.src.below cb));have eu:=U (dV.out.below cb);have ev:Hid ((bt==tl)=false->∀d∈(Q.take (j+1)).map (·.1),d.2≠tl):=by
           intro e d m;rw[dT.out]at m;rcases Bg.1 m with m|m
           ·exact ca.out Dr d m
           ·rw[Ch]at m;subst m;simpa using e
          clear cb ca dT;go_wp2;go_roundw
          case rel=>
           exact⟨j+1,bt==tl,O,An,An,ev,et,eu⟩
          case measure=>simp[intOf];omega
        ·obtain rfl:j=N:=by omega
         have ew:Hid (b5=false->∀d∈Q.map (·.1),d.2≠tl):=by
          have:=ca.out;rwa[AO (BW bb.out)]at this
         clear ca;have ex:=dJ.out;have cB:=U ((s.out.bB (by have:=cq.out;obtain⟨_,_,h|⟨_,_,h⟩⟩:=this<;>rw[h]<;>simp)).aq (Q:=λb=>w.heap.size<=b/\(Value.slice p9 j ad).ownBlock≠some b/\v10.ownBlock≠some b) (λb _ A=>⟨O,λe=>by have:=ei.out b e;omega,λe=>by have:=dH.out b e;omega⟩));clear ex;go_upto_if 71 with(fail);go_cut[5] (λv C=>∃(cC:Value),v=.pointer (some ⟨mb,0,none⟩)/\Hid (C.cell? ⟨mb,0,none⟩=some (.int .i64 (7680+k)))/\Hid (C.cell? ⟨mb,1,none⟩=some (.slice a9 tl.length a'))/\Hid (CU C (λb=>w.heap.size<=b/\(Value.slice p9 j ad).ownBlock≠some b/\cC.ownBlock≠some b) (.slice a9 tl.length a') tl)/\Hid (Ew w C gs g f (.slice p9 j ad) cC Q (if b5 then E++[7680+(k:Int)]else E) r5.tail))
         case first=>
          cases b5 with
          | false =>
           go_wp2_with fail;go_meet;exact⟨v10,rfl,s.out.c0,s.out.c1,cB.out,L.out⟩
          | true =>
           have ey:E.length<=1000:=by have:=bx.out.bh;omega
           have ez:wr.cell? ⟨g,10,none⟩=some v10:=by have:=(L.out.box 10 O).1;rwa[EJ]at this
           have e6:∀o,(wr.alloc o).cell? ⟨g,10,none⟩=some v10:=λo=>(Ad.alloc wr o).cell ez (λe=>e);have eA:=s.out.c0;have dW:Hid (¬(v10.ownBlock=some mb\/mb=g)):=by
            rintro (e|e)
            ·have:=dH.out mb e;have:=s.out.ord;omega
            ·have dO:=L.out.ord;have e7:=s.out.ord;have e8:=dJ.out;omega
           have eB:=U (L.out.af.alloc (.cells #[.int .i64 (7680+(k:Int))] 3));go_upto_region 16 with(fail);go_region_law
            (refine Yg (by rfl) _ _ (by rfl) w.heap.size v10 E (by rfl) (by exact eB.out) _ 1 (7680+k) (by rfl) EL ey (by have:=L.out.size;simp;omega) ?_
             intro v8 eC bc b6 b7
             obtain⟨eD,eE,eF,rfl⟩:∃p n q,v8=.slice p n q:=by obtain⟨p,c,e,_⟩:=bc.ap;exact⟨p,_,c,e⟩
             have ac:=U (L.out.cM bc b6 b7 ((Al wr.heap.size wr).alloc (Ac _) _).drew)
             have eG:=ac.out.2.1
             have eH:=ac.out.2.2.1)
           all_goals
            clear bc b6 b7;go_wp2_with fail;go_meet;exact⟨_,rfl,ac.out.2.2.2.1.cell s.out.c0 dW.out,ac.out.2.2.2.1.cell s.out.c1 dW.out,ac.out.2.2.2.2 _ _ cB.out,ac.out.1⟩
         case rest=>
          obtain⟨cC,rfl,eI,cu,eJ,cc⟩:=hcut;clear L s cB;have eA:=eI.out;have bl:=cu.out;have eK:wc.cell? ⟨g,9,none⟩=some (.slice p9 j ad):=by have:=(cc.out.box 9 O).1;rwa[EI _ _ O,EJ]at this
          have e9:∀o,(wc.alloc o).cell? ⟨g,9,none⟩=some (.slice p9 j ad):=λo=>(Ad.alloc wc o).cell eK (λe=>e);have eL:=U (CG cc.out.aw.own (.cells #[.int .i64 (7680+(k:Int)),.slice a9 tl.length a'] 73));go_upto_region 17 with(fail);go_region_law
           (refine Yf (by rfl) _ _ (by rfl) w.heap.size (.slice p9 j ad) Q (by rfl) (by exact eL.out) _ 1 ((7680+(k:Int),tl),.slice a9 tl.length a') (by rfl) EL EL rfl Aig (by have:=cc.out.size;simp;omega) ?_
            intro v8 eC bc b6 b7
            obtain⟨eD,eE,eF,rfl⟩:=T9 bc
            have ac:=U (cc.out.bg eJ.out bc b6 b7 ((Al wc.heap.size wc).alloc (Ac _) _).drew)
            have eG:=ac.out.2.1
            have eH:=ac.out.2.2)
          all_goals
           have eM:Hid (Ff (k+1) ((Q++[((7680+(k:Int),tl),Value.slice a9 tl.length a')]).map (·.1)) (if b5 then E++[7680+(k:Int)]else E)):=by
            have:=bx.out.snoc ce cq.out ew.out;unfold Hid;rw[FY];exact this
           clear bc b6 b7;go_wp2;go_roundw
           case rel=>
            exact⟨k+1,_,_,_,_,_,O,An,ac.out.1,eM⟩
           case measure=>simp[intOf];omega
  ·obtain rfl:k=5:=by omega
   go_wp2;go_end0;exact m.out.done bx.out
end Go.Proofs.YtblcoicaeeiojaaGreatDoor
namespace Go.Proofs.YtblcoicaeeiojaaGreatDoor
open Go.RowKit
theorem X0(s:ByteArray)(B:Bool)(w:World)(G:s.size<=140737488355328)(b:Hid (Ft (Ap s)=B)):Calls prog 59 #[.string s] w λe w'=>e=.returned (.bool B)/\Below w.heap.size w w':=by
 by_cases h:4<=s.size
 ·obtain⟨S,c⟩:∃S,It (s.extract 0 4)=S:=⟨_,rfl⟩;have m:=Adh s h;rw[c,b.out]at m;have q:=U c;have k:(s.extract 0 4).size<=140737488355328:=by rw[U7];omega
  have A:=U k;have L:(4:Int)<=(s.size:Int):=O;have C:¬(s.size:Int)<4:=O;clear c k b;go_enter func59,ntmps59;go_wp2_with (go_at_call 23;refine(T7 _ S _ A.out q).mono ?_;rintro e ac ⟨rfl,F⟩);go_ret;exact⟨rfl,F⟩
 ·have b1:Hid (B=false):=by unfold Hid;rw[<-b.out];exact Adg s h
  have C:¬(4:Int)<=(s.size:Int):=O;clear b;go_enter func59,ntmps59;exact Axm
theorem AsT(s:ByteArray)(out:List Int)(b2:Int)(w:World)(dT:s.size<=4096)(b3:Hid (Jv (Ap s)=(out,b2))):Calls prog 60 #[.string s] w (DL out b2 w):=by
 have ac:=b3.out;unfold Jv at ac;by_cases ad:s.size=0
 ·have cg:Ap s=[]:=Bw (by rw[Be];exact ad);rw[N cg]at ac;injection ac with b m;subst b;subst m;have c':=Uj s ad;clear b3 cg ad;go_enter func60,ntmps60;go_wp2;go_ret2;exact DL.nil 10 (Al _ _)
 have ci:Ap s≠[]:=λe=>ad (by rw[<-Be,e];rfl);rw[V ci]at ac;have c':=Ui s ad;have bc:=U ac;obtain⟨da,dI,db,dc,df⟩:=Cp info3;clear ci ad b3 ac;go_enter func60,ntmps60;go_wp2;go_loopw[4,5] (λv i wr=>∃k:Nat,k<=s.size/\i=.int .i64 k/\Hid (∀j,j<k->(Ap s).getD j 0<=127)/\Hid (Ak wr w.heap.size v ((Ap s).take k))/\Hid (Below w.heap.size w wr)) (λ_ i _=>s.size-(intOf i).toNat)
 case atStart=>exact⟨0,Au _,rfl,λj am=>O,Ak.nil _ _,Al _ _⟩
 case round=>
  obtain⟨k,dU,rfl,cI,bd,A⟩:=hrel;by_cases ee:k<s.size
  ·have cA:=Kt s k ee;obtain⟨c,dj⟩:∃c:Int,(s[k].toNat:Int)=c:=⟨_,rfl⟩;rw[dj]at cA;by_cases cj:127<c
   ·have cl:Hid (out=[]/\b2=12):=by
     have cm:=bc.out;rw[N (AaZ (k:=k) UI (by rw[cA];exact cj))]at cm;injection cm with b m;exact⟨b.symm,m.symm⟩
    obtain⟨rfl,rfl⟩:=cl.out;clear cA cI cl bc;go_wp2;go_ret2;exact DL.nil 12 A.out
   ·have dk:Hid (∀j,j<k+1->(Ap s).getD j 0<=127):=λj am=>Azb;have dV:decide (127<c)=false:=Ai cj;have co:(Ap s).take (k+1)=(Ap s).take k++[c]:=by rw[C4 _ k UI,cA]
    have dW:0<=c:=O;have dX:c<=255:=Ru;have dY:IntKind.i64.wrap c=c:=AT _ O;have cp:((Ap s).take k).length=k:=by rw[GL,Be];omega
    have b4:wr.ownsRow w.heap.size 3 1 u4 k (((Ap s).take k).map (.int .i64)):=by have:=bd.out;unfold Ak at this;rwa[cp]at this
    have dm:=U co;have fb:=U A.out.size;clear cA cI co;go_wp2_with (at_builtin;refine ID _ rfl _ _ 22 rfl w.heap.size 3 da (.int .i64 0) 1 8 underlying22 dI db dc df rfl Aw _ _ _ rfl (b4.alloc _) ⟨_,0,none⟩ 1 1 [.int .i64 c] rfl rfl (IB _ _ _) ?c2 ?c3 ?c4 ?c5 ?_)
    case c2=>first|rfl|(intro u G;simp at G;subst G;rfl)
    case c3=>unfold maxLen;omega
    case c4=>omega
    case c5=>have:=fb.out;simp;omega
    intro dn b5 cq cr _;have cs:Below w.heap.size w b5:=(A.out.alloc A.out.size _).grown cr MM (λj am=>(b4.lt j am).1);have dq:Hid (Ak b5 w.heap.size dn ((Ap s).take (k+1))):=by unfold Hid;rw[dm.out];unfold Ak;rw[Bc,cp];simpa using cq
    have cx:=U cs;clear cq cr cs bd A b4;go_wp2;go_roundw
    case rel=>exact⟨k+1,O,An,dk,dq,cx⟩
    case measure=>simp[intOf];omega
  ·obtain rfl:k=s.size:=by omega
   have C:=bc.out;rw[V (by rw[Aa1 (λj am=>cI.out j (by rw[Be]at am;exact am))];simp),Be]at C;have b6:=bd.out;rw[AO (by rw[Be];exact Ac _)]at b6;have bb:=U b6;clear bd b6 cI bc;by_cases ct:63<s.size
   ·rw[N ct]at C;injection C with b m;subst b;subst m;have be:(63:Int)<(s.size:Int):=O;go_wp2;go_ret2;exact DL.nil 11 A.out
   ·rw[V ct]at C;have be:¬(63:Int)<(s.size:Int):=O;have dZ:s.size<=63:=O;obtain⟨d0,d1,rfl,ds,dx⟩:=F8 bb.out;rw[Be]at dx;have cu:=Be s;rw[cu];have b7:=bb.out;rw[cu]at b7;replace bb:=U b7;clear b7 ds;cases L:Ft (Ap s) with
    | false =>
     have b8:=U L;rw[N L]at C;injection C with b m;subst m;have dy:=U b;clear L b;go_wp2_with fail;refine(X0 s false _ O b8).mono ?_;rintro e w2 ⟨rfl,a9⟩;have cx:=U (A.out.trans (a9.mono A.out.size));have dz:=U (Kq bb.out a9);clear a9;go_wp2;go_ret2;refine⟨_,rfl,?_,cx.out⟩;rw[<-dy.out];exact dz.out
    | true =>
     have b8:=U L;rw[V (by rw[L];simp)]at C;have cv:=U C;have d2:4<=s.size:=by have:=Adf L;rwa[Be]at this
     obtain⟨t,b9⟩:∃t,It s=t:=⟨_,rfl⟩;have dE:Hid (Ap t=BN (Ap s)):=by unfold Hid;rw[<-b9];exact QI s
     have dF:=U b9;obtain⟨u0,bl⟩:∃u,s.extract 4 s.size=u:=⟨_,rfl⟩;obtain⟨u,G⟩:∃u,It u0=u:=⟨_,rfl⟩;have dG:u0.size<=63:=by rw[<-bl,U7];omega
     have d3:u.size<=63:=by rw[<-G,WW];exact dG
     obtain⟨l,f,b'⟩:∃l f,Hid (Gr (BN ((Ap s).drop 4))=(l,f)):=⟨_,_,rfl⟩;have cy:Hid (Gr (Ap u)=(l,f)):=by unfold Hid;rw[<-G,QI,<-bl,TJ];exact b'.out
     have dH:=U bl;have dJ:=U G;have cB:=(VY cy.out).1;have dK:Hid (l.length<=2048):=cB;have q:=cv.out;rw[b'.out]at q;unfold QR at q;simp only at q;have bs:=U q;clear L C b9 bl G b' cB q cv;go_wp2_with fail;refine(X0 s true _ O b8).mono ?_;rintro e w2 ⟨rfl,a9⟩;have cx:=U (A.out.trans (a9.mono A.out.size));clear a9 bb;go_wp2_with fail;rw[dH.out];refine(T7 u0 u _ O dJ).mono ?_;rintro e w3 ⟨rfl,be⟩;replace cx:=U (cx.out.trans (be.mono cx.out.size));clear be;go_wp2_with fail;refine(Ar0 u l f _ O cy).mono ?_;rintro e b5 ⟨v4,rfl,ca,cC⟩;obtain⟨cD,cF,rfl,cO,dL⟩:=F8 ca;have cb:=U (Iv ca cx.out.size);have cc:=U cO;replace cx:=U (cx.out.trans (cC.mono cx.out.size));clear ca cO cC;by_cases bt:f=0
     ·subst bt;have q:=bs.out;rw[V J]at q;obtain⟨n,bv⟩:∃n,l.length=n:=⟨_,rfl⟩;have cd:=U bv;have dM:=dK.out;rw[bv]at dM dL cb;rw[bv];obtain⟨X,g,bx⟩:∃X g,AE l=(X,g):=⟨_,_,rfl⟩;obtain⟨R,ce⟩:∃R,strOfNums X=R:=⟨_,rfl⟩;have c6:=Adx bx (λY f h=>(Td h).1);have c7:Ap R=X:=by rw[<-ce];exact Mo X c6
      have a':(R.toList==t.toList)=decide (X=BN (Ap s)):=by rw[VL,c7,dE.out]
      rw[bx]at q;simp only at q;have dN:=U bx;have dO:=U ce;obtain⟨Q,c8⟩:∃Q,Hid (D5 l=Q):=⟨_,rfl⟩;rw[c8.out]at q;have F:=U q;clear bx ce c6 c7 q bs bv;go_wp2_with fail;refine(AfQ cD n cF l X g R _ cc.out cd O dN dO).mono ?_;rintro e w6 ⟨rfl,b0⟩;have c9:=U (Kq cb.out b0);have dP:=U (cc.out.below b0);replace cx:=U (cx.out.trans (b0.mono cx.out.size));clear b0 cb cc;go_wp2_with fail;refine(OX cD n cF l Q _ dP.out cd O c8).mono ?_;rintro e d4 ⟨rfl,rfl⟩;cases Q with
      | true =>
       have h:=F.out;rw[N (.inl rfl)]at h;injection h with b m;subst b;subst m;clear a' F;exact Ahr
      | false =>
       by_cases b1:g=0
       ·subst b1;go_wp2_with fail;refine(T7 s t _ O dF).mono ?_;rintro e d5 ⟨rfl,cf⟩;replace cx:=U (cx.out.trans (cf.mono cx.out.size));have dQ:=U (Kq c9.out cf);clear cf c9;by_cases ba:X=BN (Ap s)
        ·have h:=F.out;rw[V (by simp[ba])]at h;injection h with b m;subst b;subst m;have jj:(R.toList==t.toList)=true:=by rw[a'];exact At ba
         have dR:(R.toList !=t.toList)=false:=Za;clear ba a' F;go_wp2;go_ret2;refine⟨_,rfl,?_,cx.out⟩;unfold Ak;rw[cd.out];exact dQ.out
        ·have h:=F.out;rw[N (.inr (.inr ba))]at h;injection h with b m;subst b;subst m;have jj:(R.toList==t.toList)=false:=by rw[a'];exact Ai ba
         have dR:(R.toList !=t.toList)=true:=Za;clear ba a' F;exact Ahr
       ·have h:=F.out;rw[N (.inr (.inl b1))]at h;injection h with b m;subst b;subst m;have dS:(g !=0)=true:=by simp[b1]
        clear b1 a' F;exact Ahr
     ·have h:=bs.out;rw[N bt]at h;injection h with b m;subst b;subst m;have dS:(f !=0)=true:=by simp[bt]
      clear bt bs;go_wp2;go_ret2;exact DL.nil _ cx.out
end Go.Proofs.YtblcoicaeeiojaaGreatDoor
