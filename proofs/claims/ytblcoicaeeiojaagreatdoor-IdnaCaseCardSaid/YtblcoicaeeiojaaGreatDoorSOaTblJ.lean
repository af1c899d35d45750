/- keep.Tables: well-formed -/
import Derived.Test.YtblcoicaeeiojaaGreatDoorSOaPmTabRG
set_option linter.all false
set_option maxHeartbeats 16000000
set_option maxRecDepth 100000
open Go.Proofs.Tryz
namespace Go.Proofs.YtblcoicaeeiojaaGreatDoor
open Go.RowKit
structure Ei (w0 w:World) (gs g rb pb:Nat) (f:Nat->Value) (S:Nat->List Sp) (v6:Value) (sl r:List Int):Prop where
 src:Bd w gs r
 box:BI w g f
 au:BI w rb (λi=>.slice none 0 0)
 aW:Dv w (λb=>g<b/\v6.ownBlock≠some b) f S [] [] [] [] []
 bn:Ak w (pb+1) v6 sl
 aN:Aq w (some ⟨pb,0,none⟩) DP
 ab:Below w0.heap.size w0 w
 ord:w0.heap.size<=rb/\rb<gs/\gs<g/\g<pb
 nil:∀i,(i=5\/7<=i)->i<12->f i=.slice none 0 0
section
variable {w0 w w1 w':World} {gs g rb pb:Nat} {f:Nat->Value} {S:Nat->List Sp} {v6:Value} {sl r r':List Int}
theorem Ei.own(h:Ei w0 w gs g rb pb f S v6 sl r):∀b,v6.ownBlock=some b->pb+1<=b/\b<w.heap.size:=λb c=>Bs h.bn b c
theorem Ei.step(h:Ei w0 w gs g rb pb f S v6 sl r)(c:Ad w w' (λb=>b=gs))(m:Bd w' gs r'):Ei w0 w' gs g rb pb f S v6 sl r':=by
 obtain⟨s,A,C,F⟩:=h.ord;have q:=h.own;exact⟨m,h.box.keeps c O,h.au.keeps c O,h.aW.keeps c (λb k e G=>O),c.owns h.bn (λb k e=>by have:=q b k;omega),MY h.aN c O,h.ab.trans (c.below h.ab.size (λb k e=>O)),h.ord,h.nil⟩
theorem Ei.below(h:Ei w0 w gs g rb pb f S v6 sl r)(c:Below w.heap.size w w'):Ei w0 w' gs g rb pb f S v6 sl r:=
 h.step ((Ad.av c).aq (λb c e=>O)) (h.src.below c)
theorem Ei.add{i:Nat}{v:Value}{L:List Sp}(h:Ei w0 w gs g rb pb f S v6 sl r)(dI:i<7)(ad:i≠5)(s:Cr w w' g i v)(C:Cw w' v L)(m:v=f i\/∀b ff n c,v=.slice (some ⟨b,ff,none⟩) n c->w.heap.size<=b/\b<w'.heap.size):Ei w0 w' gs g rb pb (AD f i v) (AD S i L) v6 sl r:=by
 obtain⟨am,a9,a',ba⟩:=h.ord;have A:=h.own;have bb:=h.box.lt;have k:=s.ar;refine⟨h.src.keeps k (λb q e=>O),h.box.aA s,h.au.keeps k O,h.aW.dv dI k O ⟨C,?_⟩,k.owns h.bn (λb q e=>by have:=A b q;omega),MY h.aN k O,h.ab.trans (k.below h.ab.size (λb q e=>O)),h.ord,λj F G=>by rw[EI _ _ O];exact h.nil j F G⟩;intro b ff n c e;rcases m with m|m
 ·subst m;have:=(h.aW.sp i dI).2 b ff n c e;exact⟨this.1,Ci this.2 k.size⟩
 ·have:=m b ff n c e;exact⟨⟨O,λac=>by have:=A b ac;omega⟩,this.2⟩
theorem Ei.call{i:Nat}(h:Ei w0 w gs g rb pb f S v6 sl r)(dI:i<7)(A:i≠5)(b:(S i).length<=1000)(s:Sp)(z:Int):Calls prog 34 #[.pointer (some ⟨g,i,none⟩),NP s,.int .i64 z] w (λe w'=>e=.returned (.tuple #[])/\∃v,Ad w w' (λk=>k=g)/\Ei w0 w' gs g rb pb (AD f i v) (AD S i (Ct (S i) s z)) v6 sl r):=by
 obtain⟨⟨p,c,m,C,_⟩,_⟩:=h.aW.sp i dI;obtain⟨F,G⟩:=h.box i O;refine(AaP g i p _ c (S i) s z w (by rw[F,m]) G C rfl b).mono ?_;rintro e w' ⟨rfl,v,q,L,b⟩;exact⟨rfl,v,q.ar,h.add dI A q L (by rw[m];exact b)⟩
theorem Ei.more{v:Value}{z:Int}(h:Ei w0 w gs g rb pb f S v6 sl r)(q:Ak w' (pb+1) v (sl++[z]))(s:w1.grownBy w' v6.ownBlock)(dH:v.ownBlock=v6.ownBlock\/v.ownBlock=some w1.heap.size)(ad:Below w.heap.size w w1):Ei w0 w' gs g rb pb f S v (sl++[z]) r:=by
 obtain⟨L,ac,am,a9⟩:=h.ord;have m:=h.own;have a':=ad.size;have ba:=h.box.lt;have c:Ad w w' (λb=>v6.ownBlock=some b):=(Ad.av ad).trans (Ad.aC s) (λb ad e=>O) (λ_ _ e=>e);have k:∀b,b<=pb->¬v6.ownBlock=some b:=λb ad e=>by have:=m b e;omega
 have A:∀b,b<w.heap.size->v6.ownBlock≠some b->v.ownBlock≠some b:=UT;refine⟨h.src.keeps c (λb ad=>k b O),h.box.keeps c (k g O),h.au.keeps c (k rb O),?_,q,MY h.aN c (k pb O),h.ab.trans (c.below h.ab.size (λb ad e=>by have:=m b e;omega)),h.ord,h.nil⟩;have C:=h.aW.aq (Q:=λb=>(g<b/\v6.ownBlock≠some b)/\b<w.heap.size) (λb ad e=>⟨e,ad⟩);have F:=C.keeps c (λb ad e G=>G.1.2 e);exact F.aq (λb ad e=>⟨e.1.1,A b e.2 e.1.2⟩)
end
def J8(w:World)(ub:Nat)(u:Nat->Int):Prop:=∀i,i<6->w.cell? ⟨ub,i,none⟩=some (.int .i64 (u i))/\w.frozen? ⟨ub,i,none⟩=false
theorem J8.new(w:World)(u:Nat->Int)(t:TypeId):J8 (w.alloc (.cells #[.int .i64 (u 0),.int .i64 (u 1),.int .i64 (u 2),.int .i64 (u 3),.int .i64 (u 4),.int .i64 (u 5)] t)) w.heap.size u:=by
 intro i dI;have:i=0\/i=1\/i=2\/i=3\/i=4\/i=5:=O;rcases this with rfl|rfl|rfl|rfl|rfl|rfl<;>simp[Cy]
theorem J8.keeps{w w':World}{R:Nat->Prop}{ub:Nat}{u:Nat->Int}(h:J8 w ub u)(b:Ad w w' R)(c:¬R ub):J8 w' ub u:=by
 intro i dI;obtain⟨e,k⟩:=h i dI;exact⟨b.cell e c,(EN (a:=⟨ub,i,none⟩) (b.block ub (AN w _ e) c)).trans k⟩
theorem J8.lt{w:World}{ub:Nat}{u:Nat->Int}(h:J8 w ub u):ub<w.heap.size:=AN w _ (h 0 O).1
theorem J8.set{w:World}{ub i:Nat}{u:Nat->Int}(h:J8 w ub u)(dI:i<6)(v:Int):J8 (w.setCell ⟨ub,i,none⟩ (.int .i64 v)) ub (AD u i v):=by
 intro j c;obtain⟨b,k⟩:=h j c;refine⟨?_,(DC _ _ _ _).trans k⟩;by_cases e:j=i
 ·subst e;rw[EJ];exact E7 _ _ _ b
 ·rw[EI _ _ e];exact(AY _ _ _ _ (by intro m;cases m;exact e rfl)).trans b
theorem FJ.aE{u:Nat->Int}(h:FJ u){v:Int}(b:v∈[u 0,2,1]):FJ (AD u 0 v):=by
 simp only[AX,CT,C7]at b;have:=h.cat
 refine⟨?_,h.ai,h.al,h.ak,h.aj,h.ag⟩;rw[EJ];omega
theorem FJ.aK{u:Nat->Int}(h:FJ u){v:Int}(b:v∈[u 1,0,1,9,202,220,230,254]):FJ (AD u 1 v):=by
 simp only[AX,CT,C7]at b;have:=h.ai;refine⟨h.cat,?_,h.al,h.ak,h.aj,h.ag⟩;rw[EJ];omega
theorem FJ.aF{u:Nat->Int}(h:FJ u){v:Int}(b:v∈[u 2,0,1,2,3,4,5]):FJ (AD u 2 v):=by
 simp only[AX,CT,C7]at b;have:=h.al;refine⟨h.cat,h.ai,?_,h.ak,h.aj,h.ag⟩;rw[EJ];omega
theorem FJ.bC{u:Nat->Int}(h:FJ u){v:Int}(b:v∈[u 3,0,1,2,3,4,8,10,11]):FJ (AD u 3 v):=by
 simp only[AX,CT,C7]at b;have:=h.ak;refine⟨h.cat,h.ai,h.al,?_,h.aj,h.ag⟩;rw[EJ];omega
theorem FJ.bD{u:Nat->Int}(h:FJ u){v:Int}(b:v∈[u 4,0,1,2,3,6,7,9,10]):FJ (AD u 4 v):=by
 simp only[AX,CT,C7]at b;have:=h.aj;refine⟨h.cat,h.ai,h.al,h.ak,?_,h.ag⟩;rw[EJ];omega
theorem FJ.bZ{u:Nat->Int}(h:FJ u){v:Int}(b:v∈[u 5,0,1,2,4]):FJ (AD u 5 v):=by
 simp only[AX,CT,C7]at b;have:=h.ag;refine⟨h.cat,h.ai,h.al,h.ak,h.aj,?_⟩;rw[EJ];omega
structure B0 (k j:Nat) (S:Nat->List Sp):Prop where
 cat:BD (if 0<j then k+1 else k) 8 (S 0)
 ai:BD (if 1<j then k+1 else k) 254 (S 1)
 al:BD (if 2<j then k+1 else k) 5 (S 2)
 ak:BD (if 3<j then k+1 else k) 11 (S 3)
 aj:BD (if 4<j then k+1 else k) 60 (S 4)
 an:BD (if 5<j then k+1 else k) 1 (S 6)
 ag:S 5=[]
theorem B0.cE{k:Nat}{S:Nat->List Sp}(h:B0 k 0 S)(b:k<28){v:Int}(c:v<=8):B0 k 1 (AD S 0 (Ct (S 0) (Bn k,Bn k,0) v)):=⟨h.cat.add b c 0,h.ai,h.al,h.ak,h.aj,h.an,h.ag⟩
theorem B0.cG{k:Nat}{S:Nat->List Sp}(h:B0 k 1 S)(b:k<28){v:Int}(c:v<=254):B0 k 2 (AD S 1 (Ct (S 1) (Bn k,Bn k,0) v)):=⟨h.cat,h.ai.add b c 0,h.al,h.ak,h.aj,h.an,h.ag⟩
theorem B0.cH{k:Nat}{S:Nat->List Sp}(h:B0 k 2 S)(b:k<28){v:Int}(c:v<=5):B0 k 3 (AD S 2 (Ct (S 2) (Bn k,Bn k,0) v)):=⟨h.cat,h.ai,h.al.add b c 0,h.ak,h.aj,h.an,h.ag⟩
theorem B0.cJ{k:Nat}{S:Nat->List Sp}(h:B0 k 3 S)(b:k<28){v:Int}(c:v<=11):B0 k 4 (AD S 3 (Ct (S 3) (Bn k,Bn k,0) v)):=⟨h.cat,h.ai,h.al,h.ak.add b c 0,h.aj,h.an,h.ag⟩
theorem B0.cK{k:Nat}{S:Nat->List Sp}(h:B0 k 4 S)(b:k<28){v:Int}(c:v<=60):B0 k 5 (AD S 4 (Ct (S 4) (Bn k,Bn k,0) v)):=⟨h.cat,h.ai,h.al,h.ak,h.aj.add b c 0,h.an,h.ag⟩
theorem B0.cL{k:Nat}{S:Nat->List Sp}(h:B0 k 5 S)(b:k<28){v:Int}(c:v<=1):B0 k 6 (AD S 6 (Ct (S 6) (Bn k,Bn k,0) v)):=⟨h.cat,h.ai,h.al,h.ak,h.aj,h.an.add b c 0,h.ag⟩
theorem B0.dB{k:Nat}{S:Nat->List Sp}(h:B0 k 5 S)(b:k<28):B0 k 6 S:=⟨h.cat,h.ai,h.al,h.ak,h.aj,h.an.skip b,h.ag⟩
theorem B0.len{k j:Nat}{S:Nat->List Sp}(h:B0 k j S)(F:k<28):(S 0).length<=1000/\(S 1).length<=1000/\(S 2).length<=1000/\(S 3).length<=1000/\(S 4).length<=1000/\(S 6).length<=1000:=by
 have e:=h.cat.len;have m:=h.ai.len;have q:=h.al.len;have s:=h.ak.len;have A:=h.aj.len;have C:=h.an.len;have b:∀c:Prop,∀_:Decidable c,(if c then k+1 else k)<=28:=by intro c _;split<;>omega
 refine⟨Af e (Af (b _ _) O),Af m (Af (b _ _) O),Af q (Af (b _ _) O),Af s (Af (b _ _) O),Af A (Af (b _ _) O),Af C (Af (b _ _) O)⟩
structure J4 (k:Nat) (S:Nat->List Sp) (sl:List Int):Prop where
 cat:BD k 8 (S 0)
 ai:BD k 254 (S 1)
 al:BD k 5 (S 2)
 ak:BD k 11 (S 3)
 aj:BD k 60 (S 4)
 an:BD k 1 (S 6)
 ag:S 5=[]
 len:sl.length=k
 bT:∀i,i<k->Iu (sl.getD i 0)
theorem J4.prog{k:Nat}{S:Nat->List Sp}{sl:List Int}(h:J4 k S sl):B0 k 0 S:=⟨h.cat,h.ai,h.al,h.ak,h.aj,h.an,h.ag⟩
theorem J4.next{k:Nat}{S c:Nat->List Sp}{sl:List Int}{z:Int}(h:J4 k S sl)(b:B0 k 6 c)(m:Iu z):J4 (k+1) c (sl++[z]):=by
 refine⟨b.cat,b.ai,b.al,b.ak,b.aj,b.an,b.ag,Zz,λi dI=>?_⟩;have q:=h.len;by_cases e:i=k
 ·subst e;have:(sl++[z]).getD i 0=z:=by simp[List.getD,q]
  rw[this];exact m
 ·have:(sl++[z]).getD i 0=sl.getD i 0:=by simp only[Cz];rw[MR O]
  rw[this];exact h.bT i O
theorem J4.start:J4 0 (λ_=>[]) []:=⟨BD.nil _,BD.nil _,BD.nil _,BD.nil _,BD.nil _,BD.nil _,rfl,rfl,λi h=>absurd h (FH _)⟩
theorem Ags(w:World)(rb:Nat)(b c m q v4 v5 v6 s v8 v9 v10 v11:Value){f:Nat->Value}(h:BI w rb f):AS (World.setCell (World.setCell (World.setCell (World.setCell (World.setCell (World.setCell (World.setCell (World.setCell (World.setCell (World.setCell (World.setCell (World.setCell w ⟨rb,0,none⟩ b) ⟨rb,1,none⟩ c) ⟨rb,2,none⟩ m) ⟨rb,3,none⟩ q) ⟨rb,4,none⟩ v4) ⟨rb,5,none⟩ v5) ⟨rb,6,none⟩ v6) ⟨rb,7,none⟩ s) ⟨rb,8,none⟩ v8) ⟨rb,9,none⟩ v9) ⟨rb,10,none⟩ v10) ⟨rb,11,none⟩ v11) rb ⟨b,c,m,q,v4,v5,v6,s,v8,v9,v10,v11⟩/\Ad w (World.setCell (World.setCell (World.setCell (World.setCell (World.setCell (World.setCell (World.setCell (World.setCell (World.setCell (World.setCell (World.setCell (World.setCell w ⟨rb,0,none⟩ b) ⟨rb,1,none⟩ c) ⟨rb,2,none⟩ m) ⟨rb,3,none⟩ q) ⟨rb,4,none⟩ v4) ⟨rb,5,none⟩ v5) ⟨rb,6,none⟩ v6) ⟨rb,7,none⟩ s) ⟨rb,8,none⟩ v8) ⟨rb,9,none⟩ v9) ⟨rb,10,none⟩ v10) ⟨rb,11,none⟩ v11) (λk=>k=rb):=by
 have A:=h.aA (Cr.store w rb 0 b _ (h 0 O).1);have C:=A.aA (Cr.store _ rb 1 c _ (A 1 O).1);have F:=C.aA (Cr.store _ rb 2 m _ (C 2 O).1);have G:=F.aA (Cr.store _ rb 3 q _ (F 3 O).1);have L:=G.aA (Cr.store _ rb 4 v4 _ (G 4 O).1);have ac:=L.aA (Cr.store _ rb 5 v5 _ (L 5 O).1);have ad:=ac.aA (Cr.store _ rb 6 v6 _ (ac 6 O).1);have am:=ad.aA (Cr.store _ rb 7 s _ (ad 7 O).1);have a9:=am.aA (Cr.store _ rb 8 v8 _ (am 8 O).1);have a':=a9.aA (Cr.store _ rb 9 v9 _ (a9 9 O).1);have ba:=a'.aA (Cr.store _ rb 10 v10 _ (a' 10 O).1);have bb:=ba.aA (Cr.store _ rb 11 v11 _ (ba 11 O).1);exact⟨bb.box,(((((((((((Ad.store w rb 0 b).trans (Ad.store _ rb 1 c) (S:=λk=>k=rb) (λ_ _ e=>e) (λ_ _ e=>e)).trans (Ad.store _ rb 2 m) (S:=λk=>k=rb) (λ_ _ e=>e) (λ_ _ e=>e)).trans (Ad.store _ rb 3 q) (S:=λk=>k=rb) (λ_ _ e=>e) (λ_ _ e=>e)).trans (Ad.store _ rb 4 v4) (S:=λk=>k=rb) (λ_ _ e=>e) (λ_ _ e=>e)).trans (Ad.store _ rb 5 v5) (S:=λk=>k=rb) (λ_ _ e=>e) (λ_ _ e=>e)).trans (Ad.store _ rb 6 v6) (S:=λk=>k=rb) (λ_ _ e=>e) (λ_ _ e=>e)).trans (Ad.store _ rb 7 s) (S:=λk=>k=rb) (λ_ _ e=>e) (λ_ _ e=>e)).trans (Ad.store _ rb 8 v8) (S:=λk=>k=rb) (λ_ _ e=>e) (λ_ _ e=>e)).trans (Ad.store _ rb 9 v9) (S:=λk=>k=rb) (λ_ _ e=>e) (λ_ _ e=>e)).trans (Ad.store _ rb 10 v10) (S:=λk=>k=rb) (λ_ _ e=>e) (λ_ _ e=>e)).trans (Ad.store _ rb 11 v11) (S:=λk=>k=rb) (λ_ _ e=>e) (λ_ _ e=>e)⟩
end Go.Proofs.YtblcoicaeeiojaaGreatDoor
namespace Go.Proofs.YtblcoicaeeiojaaGreatDoor
open Go.RowKit
def AjJ(ao:List Int)(w:World)(e:Ending)(w':World):Prop:=
 ∃g,e=.returned (.pointer (some ⟨g,0,none⟩))/\w.heap.size<=g/\Bd w' g ao/\Below w.heap.size w w'
theorem Wh(p:Option Addr)(cap:Nat)(ao:List Int)(w:World)(c:Aq w p ao)(A:ao.length<=17592186043904):Calls prog 29 #[.slice p ao.length cap] w (AjJ ao w):=by
 have k:=U c;by_cases m:ao=[]
 ·subst m;clear c;go_enter func29,ntmps29;go_wp2;go_ret;refine⟨w.heap.size,rfl,Ac _,⟨[],0,p,cap,rfl,Ac _,J,?_,?_,?_,k.out.alloc _,λh=>absurd rfl h⟩,(Al _ _).alloc (Ac _) _⟩
  ·exact J
  ·exact J
  ·exact J
 ·have q:∀b ff,p=some ⟨b,ff,none⟩->b<w.heap.size:=by
   intro b ff e;obtain⟨G,L,s,C⟩:=c 0 (KT.2 m);rw[e]at s;cases s;have:=AN w _ C;simp only at this;omega
  have F:=U q;clear c q;go_enter func29,ntmps29;go_wp2;go_ret;refine⟨w.heap.size,rfl,Ac _,⟨ao,0,p,cap,rfl,Au _,A,?_,?_,?_,k.out.alloc _,λ_=>F.out⟩,(Al _ _).alloc (Ac _) _⟩
  ·exact J
  ·exact J
  ·exact J
abbrev DW:Array Value:=#[.slice none 0 0,.slice none 0 0,.slice none 0 0,.slice none 0 0,.slice none 0 0,.slice none 0 0,.slice none 0 0,.slice none 0 0,.slice none 0 0,.slice none 0 0,.slice none 0 0,.slice none 0 0]
theorem BI.new(w:World)(t:TypeId):BI (w.alloc (.cells DW t)) w.heap.size (λ_=>.slice none 0 0):=by
 intro i dI;have:i=0\/i=1\/i=2\/i=3\/i=4\/i=5\/i=6\/i=7\/i=8\/i=9\/i=10\/i=11:=O;rcases this with rfl|rfl|rfl|rfl|rfl|rfl|rfl|rfl|rfl|rfl|rfl|rfl<;>simp[Cy]
def Dj(w:World)(ub:Nat)(a0 a1 a2 a3 a4 a5:Int):Prop:=
 (w.cell? ⟨ub,0,none⟩=some (.int .i64 a0)/\w.cell? ⟨ub,1,none⟩=some (.int .i64 a1)/\w.cell? ⟨ub,2,none⟩=some (.int .i64 a2)/\w.cell? ⟨ub,3,none⟩=some (.int .i64 a3)/\w.cell? ⟨ub,4,none⟩=some (.int .i64 a4)/\w.cell? ⟨ub,5,none⟩=some (.int .i64 a5))/\
  ∀j,w.frozen? ⟨ub,j,none⟩=false
def B6(a0 a1 a2 a3 a4 a5:Int):Prop:=(0<=a0/\a0<=8)/\(0<=a1/\a1<=254)/\(0<=a2/\a2<=5)/\(0<=a3/\a3<=11)/\(0<=a4/\a4<=60)/\Iu a5
section
variable {w w':World} {R:Nat->Prop} {ub:Nat} {a0 a1 a2 a3 a4 a5:Int}
theorem Dj.new(w:World)(t:TypeId)(a0 a1 a2 a3 a4 a5:Int):Dj (w.alloc (.cells #[.int .i64 a0,.int .i64 a1,.int .i64 a2,.int .i64 a3,.int .i64 a4,.int .i64 a5] t)) w.heap.size a0 a1 a2 a3 a4 a5:=by
 refine⟨⟨?_,?_,?_,?_,?_,?_⟩,λj=>?_⟩<;>simp[Cy]
theorem Dj.lt(h:Dj w ub a0 a1 a2 a3 a4 a5):ub<w.heap.size:=AN w _ h.1.1
theorem Dj.keeps(h:Dj w ub a0 a1 a2 a3 a4 a5)(b:Ad w w' R)(c:¬R ub):Dj w' ub a0 a1 a2 a3 a4 a5:=by
 obtain⟨⟨e,k,m,q,s,A⟩,C⟩:=h;have F:=AN w _ e;exact⟨⟨b.cell e c,b.cell k c,b.cell m c,b.cell q c,b.cell s c,b.cell A c⟩,λj=>(EN (a:=⟨ub,j,none⟩) (b.block ub F c)).trans (C j)⟩
theorem Dj.aE(h:Dj w ub a0 a1 a2 a3 a4 a5)(v:Int):Dj (w.setCell ⟨ub,0,none⟩ (.int .i64 v)) ub v a1 a2 a3 a4 a5:=by
 obtain⟨⟨b,c,e,k,m,q⟩,s⟩:=h;exact⟨⟨E7 _ _ _ b,(AY _ ⟨ub,0,none⟩ ⟨ub,1,none⟩ _ J).trans c,(AY _ ⟨ub,0,none⟩ ⟨ub,2,none⟩ _ J).trans e,(AY _ ⟨ub,0,none⟩ ⟨ub,3,none⟩ _ J).trans k,(AY _ ⟨ub,0,none⟩ ⟨ub,4,none⟩ _ J).trans m,(AY _ ⟨ub,0,none⟩ ⟨ub,5,none⟩ _ J).trans q⟩,λj=>(DC _ _ _ _).trans (s j)⟩
theorem Dj.aK(h:Dj w ub a0 a1 a2 a3 a4 a5)(v:Int):Dj (w.setCell ⟨ub,1,none⟩ (.int .i64 v)) ub a0 v a2 a3 a4 a5:=by
 obtain⟨⟨b,c,e,k,m,q⟩,s⟩:=h;exact⟨⟨(AY _ ⟨ub,1,none⟩ ⟨ub,0,none⟩ _ J).trans b,E7 _ _ _ c,(AY _ ⟨ub,1,none⟩ ⟨ub,2,none⟩ _ J).trans e,(AY _ ⟨ub,1,none⟩ ⟨ub,3,none⟩ _ J).trans k,(AY _ ⟨ub,1,none⟩ ⟨ub,4,none⟩ _ J).trans m,(AY _ ⟨ub,1,none⟩ ⟨ub,5,none⟩ _ J).trans q⟩,λj=>(DC _ _ _ _).trans (s j)⟩
theorem Dj.aF(h:Dj w ub a0 a1 a2 a3 a4 a5)(v:Int):Dj (w.setCell ⟨ub,2,none⟩ (.int .i64 v)) ub a0 a1 v a3 a4 a5:=by
 obtain⟨⟨b,c,e,k,m,q⟩,s⟩:=h;exact⟨⟨(AY _ ⟨ub,2,none⟩ ⟨ub,0,none⟩ _ J).trans b,(AY _ ⟨ub,2,none⟩ ⟨ub,1,none⟩ _ J).trans c,E7 _ _ _ e,(AY _ ⟨ub,2,none⟩ ⟨ub,3,none⟩ _ J).trans k,(AY _ ⟨ub,2,none⟩ ⟨ub,4,none⟩ _ J).trans m,(AY _ ⟨ub,2,none⟩ ⟨ub,5,none⟩ _ J).trans q⟩,λj=>(DC _ _ _ _).trans (s j)⟩
theorem Dj.bC(h:Dj w ub a0 a1 a2 a3 a4 a5)(v:Int):Dj (w.setCell ⟨ub,3,none⟩ (.int .i64 v)) ub a0 a1 a2 v a4 a5:=by
 obtain⟨⟨b,c,e,k,m,q⟩,s⟩:=h;exact⟨⟨(AY _ ⟨ub,3,none⟩ ⟨ub,0,none⟩ _ J).trans b,(AY _ ⟨ub,3,none⟩ ⟨ub,1,none⟩ _ J).trans c,(AY _ ⟨ub,3,none⟩ ⟨ub,2,none⟩ _ J).trans e,E7 _ _ _ k,(AY _ ⟨ub,3,none⟩ ⟨ub,4,none⟩ _ J).trans m,(AY _ ⟨ub,3,none⟩ ⟨ub,5,none⟩ _ J).trans q⟩,λj=>(DC _ _ _ _).trans (s j)⟩
theorem Dj.bD(h:Dj w ub a0 a1 a2 a3 a4 a5)(v:Int):Dj (w.setCell ⟨ub,4,none⟩ (.int .i64 v)) ub a0 a1 a2 a3 v a5:=by
 obtain⟨⟨b,c,e,k,m,q⟩,s⟩:=h;exact⟨⟨(AY _ ⟨ub,4,none⟩ ⟨ub,0,none⟩ _ J).trans b,(AY _ ⟨ub,4,none⟩ ⟨ub,1,none⟩ _ J).trans c,(AY _ ⟨ub,4,none⟩ ⟨ub,2,none⟩ _ J).trans e,(AY _ ⟨ub,4,none⟩ ⟨ub,3,none⟩ _ J).trans k,E7 _ _ _ m,(AY _ ⟨ub,4,none⟩ ⟨ub,5,none⟩ _ J).trans q⟩,λj=>(DC _ _ _ _).trans (s j)⟩
theorem Dj.bZ(h:Dj w ub a0 a1 a2 a3 a4 a5)(v:Int):Dj (w.setCell ⟨ub,5,none⟩ (.int .i64 v)) ub a0 a1 a2 a3 a4 v:=by
 obtain⟨⟨b,c,e,k,m,q⟩,s⟩:=h;exact⟨⟨(AY _ ⟨ub,5,none⟩ ⟨ub,0,none⟩ _ J).trans b,(AY _ ⟨ub,5,none⟩ ⟨ub,1,none⟩ _ J).trans c,(AY _ ⟨ub,5,none⟩ ⟨ub,2,none⟩ _ J).trans e,(AY _ ⟨ub,5,none⟩ ⟨ub,3,none⟩ _ J).trans k,(AY _ ⟨ub,5,none⟩ ⟨ub,4,none⟩ _ J).trans m,E7 _ _ _ q⟩,λj=>(DC _ _ _ _).trans (s j)⟩
end
def AjQ(w:World)(e:Ending)(w':World):Prop:=
 ∃(x:TV) (T:Y),e=.returned x.agg/\Ah w' x T/\BZ T/\(∀p n c,x.a9=.slice p n c->n<=c)/\Below w.heap.size w w'
theorem Ei.bH{w0 w:World}{gs g rb pb:Nat}{f:Nat->Value}{S:Nat->List Sp}{v6:Value}{sl r:List Int}(h:Ei w0 w gs g rb pb f S v6 sl r)(k:Nat)(ba:k<28):w.cell? ⟨pb,k,none⟩=some (.int .i64 (Bn k)):=Awb
theorem DZ.a_{w w':World}{R:Nat->Prop}{b:Nat}{f t v:Int}(h:DZ w b f t v)(c:Ad w w' R)(e:¬R b):DZ w' b f t v:=by
 obtain⟨m,q,s,A,k⟩:=h;exact⟨c.cell m e,c.cell q e,c.cell s e,(EN (a:=⟨b,0,none⟩) (c.block b k e)).trans A,Ci k c.size⟩
section
variable {w:World} {P:Nat->Prop} {f:Nat->Value} {S:Nat->List Sp} {E M D R:List Mp} {X:List Int}
theorem Dv.dl{v9 v10:Value}{b:List Mp}{c:List Int}(h:Dv w P f S E M D R X)(e:Di w P v9 b)(k:CU w P v10 c):Dv w P (AD (AD f 9 v9) 10 v10) S E M b R c:=
 ⟨λi dI=>by rw[EI _ _ O,EI _ _ O];exact h.sp i dI,h.ext,h.map,e,k,h.ah⟩
theorem Dv.dt{v8 v5:Value}{b:List Mp}{L:List Sp}(h:Dv w P f S E M D R X)(c:Di w P v8 b)(k:FK w P v5 L):Dv w P (AD (AD f 8 v8) 5 v5) (AD S 5 L) E b D R X:=by
 refine⟨λi dI=>?_,h.ext,c,h.dec,h.af,h.ah⟩;by_cases e:i=5
 ·subst e;rw[EJ,EJ];exact k
 ·rw[EI _ _ e,EI _ _ e,EI _ _ O];exact h.sp i dI
theorem Dv.du{v:Value}{b:List Mp}(h:Dv w P f S E M D R X)(c:Di w P v b):Dv w P (AD f 11 v) S E M D b X:=
 ⟨λi dI=>by rw[EI _ _ O];exact h.sp i dI,h.ext,h.map,h.dec,h.af,c⟩
theorem Dv.dr{v:Value}{b:List Mp}(h:Dv w P f S E M D R X)(c:Di w P v b):Dv w P (AD f 7 v) S b M D R X:=
 ⟨λi dI=>by rw[EI _ _ O];exact h.sp i dI,c,h.map,h.dec,h.af,h.ah⟩
end
theorem Apg{S:Nat->List Sp}{sl:List Int}{b:List Sp}{E M D R:List Mp}{X:List Int}(h:J4 28 S sl)(c:Gj 28 M b)(e:Ff 5 D X)(k:GQ 5 (S 6) R)(m:E=[]\/E=[(12539,[7,8])]):BZ (Yq (AD S 5 b) E M D R X):=
 ⟨h.cat,h.ai,h.al,h.ak,h.aj,h.an,c,e,k,m⟩
theorem AmG(w:World)(n:Nat)(m:w.heap.size=n)(P:Nat->Prop)(q:P n)(s:P (n+1)):Di ((w.alloc (.cells #[.int .i64 7,.int .i64 8] 3)).alloc (.cells #[.int .i64 12539,.slice (some ⟨n,0,none⟩) 2 2] 73)) P (.slice (some ⟨n+1,0,none⟩) 1 1) [(12539,[7,8])]:=by
 subst m;have h:(w.alloc (.cells #[.int .i64 7,.int .i64 8] 3)).heap.size=w.heap.size+1:=J;refine⟨_,_,rfl,λb ff n c e=>?_,J,λk A=>?_⟩
 ·cases e;exact⟨s,J⟩
 ·obtain rfl:k=0:=by simp at A;omega
  refine⟨w.heap.size+1,0,.slice (some ⟨w.heap.size,0,none⟩) 2 2,rfl,?_,?_,⟨_,2,rfl,(CQ w #[.int .i64 7,.int .i64 8] [7,8] 3 rfl).alloc _,J⟩,λb ff n c e=>?_⟩
  ·rw[<-h];simp[Cy]
  ·rw[<-h];simp[Cy]
  ·cases e;exact⟨q,Ae⟩
theorem O8(p:Option Addr)(cap:Nat)(ao:List Int)(w:World)(fQ:Aq w p ao)(fR:ao.length<=17592186043904):Calls prog 11 #[.slice p ao.length cap] w (AjQ w):=by
 have hL:=U fQ;have hM:=U fR;clear fQ fR;obtain⟨y,fS⟩:∃y,AZ ao 3=y:=⟨_,rfl⟩;have hN:=U fS;clear fS;go_enter func11,ntmps11;have er:=(Al w.heap.size w).alloc (Ac _) (.cells DW 26);have fT:=U (BI.new w 26);have d2:=U er;have fU:=U (hL.out.below er);have hO:(w.alloc (.cells DW 26)).heap.size=w.heap.size+1:=J;clear er;go_wp2_with fail;refine(Wh p cap ao _ fU.out hM.out).mono ?_;rintro e w1 ⟨gs,rfl,hP,cB,cc⟩;have fV:w.heap.size<gs:=O;have fW:=cB.lt;have d3:=(Al w1.heap.size w1).alloc (Ac _) (.cells DW 26);have fX:=U ((fT.out.below cc).below d3);have es:=U ((d2.out.trans (cc.mono d2.out.size)).trans (d3.mono (by have:=d2.out.size;have:=cc.size;omega)));have fY:=U (cB.below d3);have fZ:=U (BI.new w1 26);have hR:(w1.alloc (.cells DW 26)).heap.size=w1.heap.size+1:=J;clear cB cc d3 hP fT d2 fU hO;go_wp2_with fail;refine(Da gs ao 3 y _ fY.out O O hN).mono ?_;rintro e w2 ⟨rfl,dK,dL⟩;have bx:=Fx dL;have f0:=U (fX.out.keeps bx O);have f1:=U (fZ.out.keeps bx O);have et:=U (es.out.trans (bx.below es.out.size (λb _ e=>O)));have f2:=U dK;have hS:=bx.size;have d4:Hid (w1.heap.size<w2.heap.size):=Hj;clear dK dL bx fX fZ es fY hS hR;go_wp2_with fail;refine(XJ _).mono ?_;rintro e w3 ⟨rfl,f3,ci,dM⟩;have dN:Hid (Ei w w3 gs w1.heap.size w.heap.size w2.heap.size (λ_=>.slice none 0 0) (λ_=>[]) (.slice none 0 0) [] ao.tail):=
  ⟨f2.out.below dM,f1.out.below dM,f0.out.below dM,⟨λi _=>FK.nil _ _,Di.nil _ _,Di.nil _ _,Di.nil _ _,CU.nil _ _,Di.nil _ _⟩,Ak.nil _ _,f3,et.out.trans (dM.mono et.out.size),⟨Ac _,fV,fW,d4.out⟩,λ_ _ _=>rfl⟩
 clear f3 ci dM f2 f1 f0 et d4 fV fW;generalize w1.heap.size=g at dN|-;generalize w2.heap.size=pb at dN|-;generalize w.heap.size=rb at dN|-;go_wp2;generalize (y==0)=f4;go_loopw[6,21] (λhT eu wr=>∃(k:Nat) (f:Nat->Value) (S:Nat->List Sp) (sl r:List Int),k<=28/\eu=.int .i64 k/\Hid (Ei w wr gs g rb pb f S hT sl r)/\Hid (J4 k S sl)) (λ_ eu _=>28-(intOf eu).toNat)
 case atStart=>exact⟨0,_,_,_,_,O,rfl,dN,J4.start⟩
 case round=>
  obtain⟨k,f,S,sl,r,ji,rfl,m,cd⟩:=hrel;clear dN;by_cases C:k<28
  ·have jj:(k:Int)<28:=by omega
   have ac:=m.out.bH k C;have ev:=XL k C;have f5:=U cd.out.prog;have f6:Hid (∀(S:Nat->List Sp) (v:Int),v<=8->B0 k 0 S->B0 k 1 (AD S 0 (Ct (S 0) (Bn k,Bn k,0) v))):=λS v b0 h=>h.cE C b0;have f7:Hid (∀(S:Nat->List Sp) (v:Int),v<=254->B0 k 1 S->B0 k 2 (AD S 1 (Ct (S 1) (Bn k,Bn k,0) v))):=λS v b0 h=>h.cG C b0;have f8:Hid (∀(S:Nat->List Sp) (v:Int),v<=5->B0 k 2 S->B0 k 3 (AD S 2 (Ct (S 2) (Bn k,Bn k,0) v))):=λS v b0 h=>h.cH C b0;have f9:Hid (∀(S:Nat->List Sp) (v:Int),v<=11->B0 k 3 S->B0 k 4 (AD S 3 (Ct (S 3) (Bn k,Bn k,0) v))):=λS v b0 h=>h.cJ C b0;have f_:Hid (∀(S:Nat->List Sp) (v:Int),v<=60->B0 k 4 S->B0 k 5 (AD S 4 (Ct (S 4) (Bn k,Bn k,0) v))):=λS v b0 h=>h.cK C b0;have f':Hid (∀(S:Nat->List Sp),B0 k 5 S->B0 k 6 (AD S 6 (Ct (S 6) (Bn k,Bn k,0) 1))):=λS h=>h.cL C O;generalize Bn k=c at ac ev f6 f7 f8 f9 f_ f';obtain⟨hU,hV,d5,hW⟩:=m.out.ord;have jk:pb<wr.heap.size:=AN wr _ ac;have hX:=U ev;clear ev;go_wp2_with fail;refine(AuI c _ hX.out).mono ?_;rintro e cC ⟨u,cj,rfl,dO⟩;obtain⟨a0,ew⟩:∃a,u 0=a:=⟨_,rfl⟩;obtain⟨a1,ex⟩:∃a,u 1=a:=⟨_,rfl⟩;obtain⟨a2,ey⟩:∃a,u 2=a:=⟨_,rfl⟩;obtain⟨a3,ez⟩:∃a,u 3=a:=⟨_,rfl⟩;obtain⟨a4,eA⟩:∃a,u 4=a:=⟨_,rfl⟩;obtain⟨a5,eB⟩:∃a,u 5=a:=⟨_,rfl⟩;have eC:Hid (B6 a0 a1 a2 a3 a4 a5):=by
    rw[<-ew,<-ex,<-ey,<-ez,<-eA,<-eB];exact⟨cj.cat,cj.ai,cj.al,cj.ak,cj.aj,cj.ag⟩
   simp only[Agb,ew,ex,ey,ez,eA,eB];clear ew ex ey ez eA eB cj;have eD:=(Al cC.heap.size cC).alloc (Ac _) (.cells #[.int .i64 a0,.int .i64 a1,.int .i64 a2,.int .i64 a3,.int .i64 a4,.int .i64 a5] 62);have dP:=U (((Ad.av dO).trans (Ad.av eD) (S:=λb=>b=gs) (λb ad e=>O) (λb ad e=>by have:=dO.size;omega)));have cD:=U ((m.out.src.below dO).below eD);have cl:=U (Dj.new cC 62 a0 a1 a2 a3 a4 a5);have hY:wr.heap.size<=cC.heap.size:=dO.size;clear ac dO eD;go_upto_if 27 with(fail);generalize (cC.alloc (.cells #[.int .i64 a0,.int .i64 a1,.int .i64 a2,.int .i64 a3,.int .i64 a4,.int .i64 a5] 62))=eE at dP cD cl|-;generalize cC.heap.size=ub at cl hY|-;have cm:ub≠gs:=O;go_cut[10] (λv F=>∃(co cp cq cr cs ct:Int) (r':List Int),v=.pointer (some ⟨ub,0,none⟩)/\Hid (B6 co cp cq cr cs ct)/\Hid (Dj F ub co cp cq cr cs ct)/\Hid (Ad wr F (λb=>b=gs))/\Hid (Bd F gs r'))
   case first=>
    cases f4 with
    | true =>
     obtain⟨ga,gb,gc,gd,ge,gf⟩:=eC.out;have gg:=U ga;have gh:=U gb;have gi:=U gc;have gj:=U gd;have gl:=U ge;have d6:=U gf;clear ga gb gc gd ge gf;obtain⟨⟨a9,b1,b2,b3,b4,a'⟩,hZ⟩:=cl.out;clear hZ;go_wp2_with fail;refine(On gs _ eE.heap.size 0 3 3 [a0,2,1] _ (cD.out.alloc _) (CQ eE #[.int .i64 a0,.int .i64 2,.int .i64 1] [a0,2,1] 3 rfl) rfl O O (by have:=cD.out.lt;omega)).mono ?_;rintro e d7 ⟨cu,jl,rfl,gm,gn,go⟩;have eF:=(Ad.alloc eE (.cells #[.int .i64 a0,.int .i64 2,.int .i64 1] 3)).trans (Fx go) (S:=λb=>b=gs) (λ_ _ e=>e.elim) (λ_ _ e=>e);have eG:=U (cl.out.keeps eF cm);have h0:Hid (0<=cu/\cu<=8):=by
      simp only[AX,CT,C7]at gm;have:=gg.out;exact US
     obtain⟨⟨ba,bb,bc,be,bl,bs⟩,s⟩:=eG.out;have bt:=s 0;have eH:=Ad.store d7 ub 0 (.int .i64 cu);have eI:=U ((dP.out.trans eF (λ_ _ e=>e) (λ_ _ e=>e)).trans eH (S:=λb=>b=gs) (λ_ _ e=>e) (λb ad e=>O));have eJ:=U (eG.out.aE cu);have d8:=U (gn.keeps eH (λb ad e=>O));have h3:Hid (d7.heap.size=(d7.setCell ⟨ub,0,none⟩ (.int .i64 cu)).heap.size):=Rt;clear gm gn go eF eG s eH cD dP cl gg a9 b1 b2 b3 b4 a';go_wp2_with fail;rw[h3.out];clear ba bb bc be bl bs bt;generalize (d7.setCell ⟨ub,0,none⟩ (.int .i64 cu))=eK at d8 eI eJ|-;refine(On gs _ eK.heap.size 0 8 8 [a1,0,1,9,202,220,230,254] _ (d8.out.alloc _) (CQ eK #[.int .i64 a1,.int .i64 0,.int .i64 1,.int .i64 9,.int .i64 202,.int .i64 220,.int .i64 230,.int .i64 254] [a1,0,1,9,202,220,230,254] 3 rfl) rfl O O (by have:=d8.out.lt;omega)).mono ?_;rintro e d9 ⟨cv,jm,rfl,gp,cB,gq⟩;have eL:=(Ad.alloc eK (.cells #[.int .i64 a1,.int .i64 0,.int .i64 1,.int .i64 9,.int .i64 202,.int .i64 220,.int .i64 230,.int .i64 254] 3)).trans (Fx gq) (S:=λb=>b=gs) (λ_ _ e=>e.elim) (λ_ _ e=>e);have eM:=U (eJ.out.keeps eL cm);have h4:Hid (0<=cv/\cv<=254):=by
      simp only[AX,CT,C7]at gp;have:=gh.out;exact US
     obtain⟨⟨ba,bb,bc,be,bl,bs⟩,s⟩:=eM.out;have bt:=s 1;have eN:=Ad.store d9 ub 1 (.int .i64 cv);have eO:=U ((eI.out.trans eL (λ_ _ e=>e) (λ_ _ e=>e)).trans eN (S:=λb=>b=gs) (λ_ _ e=>e) (λb ad e=>O));have eP:=U (eM.out.aK cv);have d_:=U (cB.keeps eN (λb ad e=>O));have h5:Hid (d9.heap.size=(d9.setCell ⟨ub,1,none⟩ (.int .i64 cv)).heap.size):=Rt;clear gp cB gq eL eM s eN d8 eI eJ gh;go_wp2_with fail;rw[h5.out];clear ba bb bc be bl bs bt;generalize (d9.setCell ⟨ub,1,none⟩ (.int .i64 cv))=eQ at d_ eO eP|-;refine(On gs _ eQ.heap.size 0 7 7 [a2,0,1,2,3,4,5] _ (d_.out.alloc _) (CQ eQ #[.int .i64 a2,.int .i64 0,.int .i64 1,.int .i64 2,.int .i64 3,.int .i64 4,.int .i64 5] [a2,0,1,2,3,4,5] 3 rfl) rfl O O (by have:=d_.out.lt;omega)).mono ?_;rintro e d' ⟨cx,jn,rfl,gr,dK,dL⟩;have bx:=(Ad.alloc eQ (.cells #[.int .i64 a2,.int .i64 0,.int .i64 1,.int .i64 2,.int .i64 3,.int .i64 4,.int .i64 5] 3)).trans (Fx dL) (S:=λb=>b=gs) (λ_ _ e=>e.elim) (λ_ _ e=>e);have eR:=U (eP.out.keeps bx cm);have h6:Hid (0<=cx/\cx<=5):=by
      simp only[AX,CT,C7]at gr;have:=gi.out;exact US
     obtain⟨⟨ba,bb,bc,be,bl,bs⟩,s⟩:=eR.out;have bt:=s 2;have eS:=Ad.store d' ub 2 (.int .i64 cx);have eT:=U ((eO.out.trans bx (λ_ _ e=>e) (λ_ _ e=>e)).trans eS (S:=λb=>b=gs) (λ_ _ e=>e) (λb ad e=>O));have eU:=U (eR.out.aF cx);have ea:=U (dK.keeps eS (λb ad e=>O));have d4:Hid (d'.heap.size=(d'.setCell ⟨ub,2,none⟩ (.int .i64 cx)).heap.size):=Rt;clear gr dK dL bx eR s eS d_ eO eP gi;go_wp2_with fail;rw[d4.out];clear ba bb bc be bl bs bt;generalize (d'.setCell ⟨ub,2,none⟩ (.int .i64 cx))=eV at ea eT eU|-;refine(On gs _ eV.heap.size 0 9 9 [a3,0,1,2,3,4,8,10,11] _ (ea.out.alloc _) (CQ eV #[.int .i64 a3,.int .i64 0,.int .i64 1,.int .i64 2,.int .i64 3,.int .i64 4,.int .i64 8,.int .i64 10,.int .i64 11] [a3,0,1,2,3,4,8,10,11] 3 rfl) rfl O O (by have:=ea.out.lt;omega)).mono ?_;rintro e eb ⟨cy,jo,rfl,gt,gu,gv⟩;have eW:=(Ad.alloc eV (.cells #[.int .i64 a3,.int .i64 0,.int .i64 1,.int .i64 2,.int .i64 3,.int .i64 4,.int .i64 8,.int .i64 10,.int .i64 11] 3)).trans (Fx gv) (S:=λb=>b=gs) (λ_ _ e=>e.elim) (λ_ _ e=>e);have eX:=U (eU.out.keeps eW cm);have h7:Hid (0<=cy/\cy<=11):=by
      simp only[AX,CT,C7]at gt;have:=gj.out;exact US
     obtain⟨⟨ba,bb,bc,be,bl,bs⟩,s⟩:=eX.out;have bt:=s 3;have eY:=Ad.store eb ub 3 (.int .i64 cy);have eZ:=U ((eT.out.trans eW (λ_ _ e=>e) (λ_ _ e=>e)).trans eY (S:=λb=>b=gs) (λ_ _ e=>e) (λb ad e=>O));have e0:=U (eX.out.bC cy);have ec:=U (gu.keeps eY (λb ad e=>O));have h8:Hid (eb.heap.size=(eb.setCell ⟨ub,3,none⟩ (.int .i64 cy)).heap.size):=Rt;clear gt gu gv eW eX s eY ea eT eU gj;go_wp2_with fail;rw[h8.out];clear ba bb bc be bl bs bt;generalize (eb.setCell ⟨ub,3,none⟩ (.int .i64 cy))=e1 at ec eZ e0|-;refine(On gs _ e1.heap.size 0 9 9 [a4,0,1,2,3,6,7,9,10] _ (ec.out.alloc _) (CQ e1 #[.int .i64 a4,.int .i64 0,.int .i64 1,.int .i64 2,.int .i64 3,.int .i64 6,.int .i64 7,.int .i64 9,.int .i64 10] [a4,0,1,2,3,6,7,9,10] 3 rfl) rfl O O (by have:=ec.out.lt;omega)).mono ?_;rintro e ed ⟨v4,jp,rfl,gx,gy,gz⟩;have e2:=(Ad.alloc e1 (.cells #[.int .i64 a4,.int .i64 0,.int .i64 1,.int .i64 2,.int .i64 3,.int .i64 6,.int .i64 7,.int .i64 9,.int .i64 10] 3)).trans (Fx gz) (S:=λb=>b=gs) (λ_ _ e=>e.elim) (λ_ _ e=>e);have e3:=U (e0.out.keeps e2 cm);have h9:Hid (0<=v4/\v4<=60):=by
      simp only[AX,CT,C7]at gx;have:=gl.out;exact US
     obtain⟨⟨ba,bb,bc,be,bl,bs⟩,s⟩:=e3.out;have bt:=s 4;have e4:=Ad.store ed ub 4 (.int .i64 v4);have e5:=U ((eZ.out.trans e2 (λ_ _ e=>e) (λ_ _ e=>e)).trans e4 (S:=λb=>b=gs) (λ_ _ e=>e) (λb ad e=>O));have e6:=U (e3.out.bD v4);have ee:=U (gy.keeps e4 (λb ad e=>O));have h_:Hid (ed.heap.size=(ed.setCell ⟨ub,4,none⟩ (.int .i64 v4)).heap.size):=Rt;clear gx gy gz e2 e3 s e4 ec eZ e0 gl;go_wp2_with fail;rw[h_.out];clear ba bb bc be bl bs bt;generalize (ed.setCell ⟨ub,4,none⟩ (.int .i64 v4))=e7 at ee e5 e6|-;refine(On gs _ e7.heap.size 0 5 5 [a5,0,1,2,4] _ (ee.out.alloc _) (CQ e7 #[.int .i64 a5,.int .i64 0,.int .i64 1,.int .i64 2,.int .i64 4] [a5,0,1,2,4] 3 rfl) rfl O O (by have:=ee.out.lt;omega)).mono ?_;rintro e e8 ⟨v5,jq,rfl,gA,dQ,gB⟩;have bv:=(Ad.alloc e7 (.cells #[.int .i64 a5,.int .i64 0,.int .i64 1,.int .i64 2,.int .i64 4] 3)).trans (Fx gB) (S:=λb=>b=gs) (λ_ _ e=>e.elim) (λ_ _ e=>e);have e9:=U (e6.out.keeps bv cm);have h':Hid (Iu v5):=by
      simp only[AX,CT,C7]at gA;have:=d6.out;unfold Iu at this;unfold Hid Iu;omega
     obtain⟨⟨ba,bb,bc,be,bl,bs⟩,s⟩:=e9.out;have bt:=s 5;have e_:=Ad.store e8 ub 5 (.int .i64 v5);have ia:=U ((e5.out.trans bv (λ_ _ e=>e) (λ_ _ e=>e)).trans e_ (S:=λb=>b=gs) (λ_ _ e=>e) (λb ad e=>O));have ib:=U (e9.out.bZ v5);have ic:=U (dQ.keeps e_ (λb ad e=>O));have jr:Hid (e8.heap.size=(e8.setCell ⟨ub,5,none⟩ (.int .i64 v5)).heap.size):=Rt;clear gA dQ gB bv e9 s e_ ee e5 e6 d6;go_wp2_with fail;go_meet;exact⟨cu,cv,cx,cy,v4,v5,_,rfl,⟨h0.out,h4.out,h6.out,h7.out,h9.out,h'.out⟩,ib,ia,ic⟩
    | false =>
     go_wp2_with fail;go_meet;exact⟨a0,a1,a2,a3,a4,a5,_,rfl,eC,cl,dP,cD⟩
   case rest=>
    obtain⟨co,cp,cq,cr,cs,ct,r5,rfl,gC,ef,ce,dR⟩:=hcut;clear dP cD cl eC;have cF:=U (m.out.step ce.out dR.out);clear ce dR m;have e':=(Al wc.heap.size wc).alloc (Ac _) (.cells #[.int .i64 c,.int .i64 c,.int .i64 0] 66);have gD:=U (cF.out.below e');have js:=ef.out.lt;have gE:=U (ef.out.keeps (Ad.av e') O);have gF:=U (DZ.new wc c c 0 66);have cI:wc.heap.size≠g:=by have:=cF.out.box.lt;omega
    have gG:wc.heap.size≠gs:=by have:=cF.out.src.lt;omega
    have cO:ub≠g:=by have:=cF.out.box.lt;have:=cF.out.ab.size;omega
    obtain⟨b5,b6,b7,b8,b9,b'⟩:=gC.out;have dS:=U (And.intro b5.2 (And.intro b6.2 (And.intro b7.2 (And.intro b8.2 b9.2))));have d6:=U b';obtain⟨⟨a9,_,_,_,_,_⟩,_⟩:=ef.out;clear b5 b6 b7 b8 b9 b' gC cF e' ef;go_wp2_with fail;clear a9;refine(gD.out.call (i:=0) O O (f5.out.len C).1 (c,c,0) co).mono ?_;rintro e id ⟨rfl,ie,q,G⟩;have eg:=U G;have fa:=U (f6.out _ _ dS.out.1 f5.out);have fb:=U (gE.out.keeps q cO);have fc:Hid (DZ id wc.heap.size c c 0):=gF.out.a_ q cI;clear G q gD gE gF;generalize AD _ 0 ie=jt at eg;generalize AD _ 0 (Ct _ (c,c,0) co)=ju at eg fa;obtain⟨⟨a9,b1,b2,b3,b4,a'⟩,_⟩:=fb.out;obtain⟨ca,ac,cb,_,_⟩:=fc.out;go_wp2_with fail;clear a9 b1 b2 b3 b4 a' ca ac cb;refine(eg.out.call (i:=1) O O (fa.out.len C).2.1 (c,c,0) cp).mono ?_;rintro e ih ⟨rfl,ii,q,G⟩;have eh:=U G;have fd:=U (f7.out _ _ dS.out.2.1 fa.out);have fe:=U (fb.out.keeps q cO);have fg:Hid (DZ ih wc.heap.size c c 0):=fc.out.a_ q cI;clear G q eg fb fc;generalize AD _ 1 ii=jv at eh;generalize AD _ 1 (Ct _ (c,c,0) cp)=jw at eh fd;obtain⟨⟨a9,b1,b2,b3,b4,a'⟩,_⟩:=fe.out;obtain⟨ca,ac,cb,_,_⟩:=fg.out;go_wp2_with fail;clear a9 b1 b2 b3 b4 a' ca ac cb;refine(eh.out.call (i:=2) O O (fd.out.len C).2.2.1 (c,c,0) cq).mono ?_;rintro e ij ⟨rfl,ik,q,G⟩;have ei:=U G;have fh:=U (f8.out _ _ dS.out.2.2.1 fd.out);have fi:=U (fe.out.keeps q cO);have fj:Hid (DZ ij wc.heap.size c c 0):=fg.out.a_ q cI;clear G q eh fe fg;generalize AD _ 2 ik=jx at ei;generalize AD _ 2 (Ct _ (c,c,0) cq)=jy at ei fh;obtain⟨⟨a9,b1,b2,b3,b4,a'⟩,_⟩:=fi.out;obtain⟨ca,ac,cb,_,_⟩:=fj.out;go_wp2_with fail;clear a9 b1 b2 b3 b4 a' ca ac cb;refine(ei.out.call (i:=3) O O (fh.out.len C).2.2.2.1 (c,c,0) cr).mono ?_;rintro e il ⟨rfl,im,q,G⟩;have ej:=U G;have fk:=U (f9.out _ _ dS.out.2.2.2.1 fh.out);have fl:=U (fi.out.keeps q cO);have fm:Hid (DZ il wc.heap.size c c 0):=fj.out.a_ q cI;clear G q ei fi fj;generalize AD _ 3 im=jz at ej;generalize AD _ 3 (Ct _ (c,c,0) cr)=jA at ej fk;obtain⟨⟨a9,b1,b2,b3,b4,a'⟩,_⟩:=fl.out;obtain⟨ca,ac,cb,_,_⟩:=fm.out;go_wp2_with fail;clear a9 b1 b2 b3 b4 a' ca ac cb;refine(ej.out.call (i:=4) O O (fk.out.len C).2.2.2.2.1 (c,c,0) cs).mono ?_;rintro e io ⟨rfl,ip,q,G⟩;have j7:=U G;have ek:=U (f_.out _ _ dS.out.2.2.2.2 fk.out);have l4:=U (fl.out.keeps q cO);have je:Hid (DZ io wc.heap.size c c 0):=fm.out.a_ q cI;clear G q ej fl fm;generalize AD _ 4 ip=cf at j7;generalize AD _ 4 (Ct _ (c,c,0) cs)=gH at j7 ek;generalize wc.heap.size=gI at je cI gG|-;go_upto_region 23 with(fail);go_cut[101] (λiq F=>∃(B:Bool) (r':List Int),iq=.bool B/\Hid (Ei w F gs g rb pb cf gH u6 sl r')/\Hid (Dj F ub co cp cq cr cs ct)/\Hid (DZ F gI c c 0))
    case first=>
     by_cases el:c=173
     ·have fn:(c==173)=true:=by simp[el]
      clear el;exact AwG
     ·have fn:(c==173)=false:=by simp[el]
      clear el;cases f4 with
      | true =>
       obtain⟨z,ci⟩:∃z,AZ r5 12=z:=⟨_,rfl⟩;have fo:=U ci;clear ci;go_wp2_with fail;refine(Da gs r5 12 z _ j7.out.src O O fo).mono ?_;rintro e ir ⟨rfl,gJ,dT⟩;have em:=Fx dT;have is:=U (j7.out.step em gJ);have it:=U (l4.out.keeps em cm);have iu:Hid (DZ ir gI c c 0):=je.out.a_ em gG;clear gJ dT em;go_wp2_with fail;go_meet;exact⟨_,_,rfl,is,it,iu⟩
      | false =>
       exact AwG
    case rest=>
     obtain⟨B,r9,rfl,fp,fq,dU⟩:=hcut;clear j7 l4 je;go_upto_if 101 with(fail);go_cut[10] (λv F=>∃(c2:Nat->Value) (fs:Nat->List Sp),v=.pointer (some ⟨ub,0,none⟩)/\Hid (Ei w F gs g rb pb c2 fs u6 sl r9)/\Hid (B0 k 6 fs)/\Hid (Dj F ub co cp cq cr cs ct))
     case first=>
      cases B with
      | false =>
       go_wp2_with fail;go_meet;exact⟨cf,gH,rfl,fp,ek.out.dB C,fq⟩
      | true =>
       obtain⟨ca,ac,cb,_,_⟩:=dU.out;go_wp2_with fail;refine(fp.out.call (i:=6) O O (ek.out.len C).2.2.2.2.2 (c,c,0) 1).mono ?_;rintro e jB ⟨rfl,jC,gK,gL⟩;have iv:=U gL;have ft:=U (f'.out _ ek.out);have iw:=U (fq.out.keeps gK cO);clear gL gK ca ac cb;go_wp2_with fail;go_meet;exact⟨_,_,rfl,iv,ft,iw⟩
     case rest=>
      obtain⟨c2,fs,rfl,fu,gM,ix⟩:=hcut;clear fp fq dU;obtain⟨⟨_,_,_,_,_,a'⟩,_⟩:=ix.out;have iy:=U (fu.out.bn.alloc (.cells #[.int .i64 ct] 3));have iz:Hid (sl.length<=1000):=by have:=cd.out.len;unfold Hid;omega
      have ft:Hid (pb+1<=wc.heap.size):=by
       obtain⟨_,_,e,iA⟩:=fu.out.aN 0 (by rw[Ae1];omega);cases e;exact AN wc _ iA
      have iB:=U (cd.out.next gM.out d6.out);clear cd gM;go_wp2_with (at_builtin;refine Ag' _ _ rfl rfl (pb+1) u6 sl (by rfl) (by exact iy.out) _ 1 ct (by rfl) EL iz.out (by have:=ft.out;simp;omega) ?_;intro jD iC gN gO gP;have iD:=U (fu.out.more gN gO gP ((Al _ _).alloc (Ac _) _));clear gN gO gP);go_roundw
      case rel=>exact⟨k+1,_,_,_,_,O,An,iD,iB⟩
      case measure=>simp[intOf];omega
  ·obtain rfl:k=28:=by omega
   obtain⟨hU,hV,d5,hW⟩:=m.out.ord;have iE:=cd.out.len;have fv:wr.ownsRow (pb+1) 3 1 u6 28 (sl.map (.int .i64)):=by
    have:=m.out.bn;unfold Ak at this;rwa[iE]at this
   obtain⟨sb,sc,iF,jE,jF⟩:=fv.form O;subst iF;have jG:=m.out.box.lt;have gQ:=U (m.out.aW.aq (Q:=λb=>g<b/\b≠sb) (λb _ ad=>⟨ad.1,λe=>ad.2 KM⟩));have gR:=U m.out.au;have fw:=U m.out.ab;have gS:=U fv;clear fv;go_wp2_with fail;refine(Al0 gs g f r _ m.out.src m.out.box (m.out.nil 9 O O) (m.out.nil 10 O O) d5).mono ?_;rintro e jH ⟨rfl,r5,v9,v10,D,E,gT,dQ,gU,gV,gW,bv,gX⟩;have fx:=U ((gQ.out.keeps bv (λb _ e dV=>O)).dl (gV.aq (λb _ ad=>⟨O,O⟩)) (gW.aq (λb _ ad=>⟨O,O⟩)));have gY:=U (gR.out.keeps bv O);have fy:=U (fw.out.trans (bv.below fw.out.size (λb _ e=>O)));have gZ:=U (Iv (bv.owns gS.out (λb ad e=>Ahp)) (Au _));have g0:=U dQ;have je:=U gU;have iG:=U gT;have g1:=U gX;have jI:=bv.size;have g2:AD (AD f 9 v9) 10 v10 8=.slice none 0 0:=m.out.nil 8 O O;have g3:AD (AD f 9 v9) 10 v10 5=.slice none 0 0:=m.out.nil 5 O O;have g4:AD (AD f 9 v9) 10 v10 11=.slice none 0 0:=m.out.nil 11 O O;have fz:Hid (AD (AD f 9 v9) 10 v10 9=v9):=rfl;have fA:=U g2;have fB:=U g3;have fC:=U g4;clear dQ gU gV gW bv gX gT gQ gR fw gS m g2 g3 g4;generalize AD (AD f 9 v9) 10 v10=cf at fx je fA fB fC fz;go_wp2_with fail;refine(Apw gs g sb sc cf sl r5 _ g0.out je.out fA.out fB.out gZ.out (λi dI=>cd.out.bT i dI) ⟨d5,O,O⟩).mono ?_;rintro e w6 ⟨rfl,r6,v8,v5,M,g5,g6,dR,g7,g8,g9,ce⟩;have en:=U ((fx.out.keeps ce (λb _ e dV=>O)).dt (g8.aq (λb _ ad=>⟨O,O⟩)) (g9.aq (λb _ ad=>⟨O,O⟩)));have g_:=U (gY.out.keeps ce O);have fD:=U (fy.out.trans (ce.below fy.out.size (λb _ e=>O)));have g':=U dR;have fE:=U g7;have iH:=U g6;have jJ:=ce.size;have fF:Hid (AD (AD cf 8 v8) 5 v5 11=.slice none 0 0):=fC.out;have fG:Hid (AD (AD cf 8 v8) 5 v5 9=v9):=fz.out;have fH:Hid (FK w6 (λb=>b≠gs/\b≠g) (AD (AD cf 8 v8) 5 v5 6) (S 6)):=(en.out.sp 6 O).aq (λb _ ad=>⟨O,O⟩);clear dR g7 g8 g9 ce g6 fx gY fy g0 je fA fB fC fz gZ;generalize AD (AD cf 8 v8) 5 v5=c2 at en fE fF fG fH;go_wp2_with fail;refine(ArC gs g c2 (S 6) r6 _ g'.out fE.out fF.out fH.out (cd.out.an.aL O) d5).mono ?_;rintro e iC ⟨rfl,r7,v11,ha,hb,hc,he,hf,dW⟩;have fI:=U ((en.out.keeps dW (λb _ e dV=>O)).du (hf.aq (λb _ ad=>⟨O,O⟩)));have hg:=U (g_.out.keeps dW O);have fJ:=U (fD.out.trans (dW.below fD.out.size (λb _ e=>O)));have hh:=U hc;have fL:=U he;have iI:=U hb;have jK:=dW.size;have eo:Hid (AD c2 11 v11 9=v9):=fG.out;clear hc he hf dW hb en g_ fD g' fE fF fH fG;generalize AD c2 11 v11=hj at fI fL eo;obtain⟨z,ci⟩:∃z,AZ r7 2=z:=⟨_,rfl⟩;have fo:=U ci;clear ci;go_wp2_with fail;refine(Da gs r7 2 z _ hh.out O O fo).mono ?_;rintro e A ⟨rfl,iJ,hk⟩;have c3:=Fx hk;have fM:=U (fI.out.keeps c3 (λb _ e dV=>O));have fN:=U (hg.out.keeps c3 O);have dX:=U (fJ.out.trans (c3.below fJ.out.size (λb _ e=>O)));have dY:=U (fL.out.keeps c3 O);have jL:=c3.size;clear iJ hk c3 fI hg fJ fL hh;go_upto_if 120 with(fail);go_cut[4] (λv F=>∃(cA:Nat->Value) (dZ:List Mp),v=.pointer (some ⟨g,0,none⟩)/\Hid (dZ=[]\/dZ=[(12539,[7,8])])/\Hid (BI F g cA)/\Hid (Dv F (λb=>g<b/\b≠sb) cA (AD S 5 g5) dZ M D ha E)/\Hid (BI F rb (λ_=>.slice none 0 0))/\Hid (Below w.heap.size w F)/\Hid (cA 9=v9))
   case first=>
    by_cases ep:z=0
    ·have fn:(z==0)=true:=by simp[ep]
     clear ep;obtain⟨cg,jM⟩:=dY.out 7 O;have eq:=Ad.store A g 7 (.slice (some ⟨A.heap.size+1,0,none⟩) 1 1);have fO:(A.setCell ⟨g,7,none⟩ (.slice (some ⟨A.heap.size+1,0,none⟩) 1 1)).heap.size=A.heap.size:=Aic;have cc:=(Al (A.setCell ⟨g,7,none⟩ (.slice (some ⟨A.heap.size+1,0,none⟩) 1 1)).heap.size (A.setCell ⟨g,7,none⟩ (.slice (some ⟨A.heap.size+1,0,none⟩) 1 1))).alloc (Ac _) (.cells #[.int .i64 7,.int .i64 8] 3);have d0:=cc.alloc cc.size (.cells #[.int .i64 12539,.slice (some ⟨A.heap.size,0,none⟩) 2 2] 73);have hl:=AmG (A.setCell ⟨g,7,none⟩ (.slice (some ⟨A.heap.size+1,0,none⟩) 1 1)) A.heap.size fO (λb=>g<b/\b≠sb) ⟨O,O⟩ ⟨O,O⟩;have iK:=U ((dY.out.aA (Cr.store A g 7 (.slice (some ⟨A.heap.size+1,0,none⟩) 1 1) _ cg)).below d0);have iL:=U (((fM.out.keeps eq (λb _ e dV=>O)).below d0).dr hl);have iM:=U ((fN.out.keeps eq O).below d0);have iN:=U ((dX.out.trans (eq.below dX.out.size (λb _ e=>O))).trans (d0.mono (by rw[fO];exact dX.out.size)));have iO:Hid (AD hj 7 (.slice (some ⟨A.heap.size+1,0,none⟩) 1 1) 9=v9):=eo.out;have jN:g<A.heap.size:=dY.out.lt;clear cc d0 hl eq fO;go_wp2_with fail;go_meet;exact⟨_,_,rfl,.inr rfl,iK,iL,iM,iN,iO⟩
    ·have fn:(z==0)=false:=by simp[ep]
     clear ep;go_wp2_with fail;go_meet;exact⟨hj,[],rfl,.inl rfl,dY,fM,fN,dX,eo⟩
   case rest=>
    obtain⟨cA,dZ,rfl,hm,dU,hn,L,ho,dT⟩:=hcut;clear dY fM fN dX eo;obtain⟨⟨a0,a1,a2,a3,a4,a5,hp,hq,hr,hs,ht,hu⟩,d1⟩:∃x,I1 cA=x:=⟨_,rfl⟩;have am:Ah wc ⟨a0,a1,a2,a3,a4,a5,hp,hq,hr,hs,ht,hu⟩ (Yq (AD S 5 g5) dZ M D ha E):=by rw[<-d1];exact hn.out.tab
    obtain⟨b5,c4,c5,iP⟩:Ag a0:=am.cat.ae;subst iP;obtain⟨b6,c6,c7,iQ⟩:Ag a1:=am.ai.ae;subst iQ;obtain⟨b7,c8,c9,iR⟩:Ag a2:=am.al.ae;subst iR;obtain⟨b8,c',da,iS⟩:Ag a3:=am.ak.ae;subst iS;obtain⟨b9,db,dc,iT⟩:Ag a4:=am.aj.ae;subst iT;obtain⟨b',df,dj,iU⟩:Ag a5:=am.ag.ae;subst iU;obtain⟨dk,dm,dn,iV⟩:Ag hp:=am.an.ae;subst iV;obtain⟨p7,dq,cg,iW⟩:Ag hq:=am.ext.ae;subst iW;obtain⟨ds,dx,dy,iX⟩:Ag hr:=am.map.ae;subst iX;obtain⟨p9,n9,q9,iY⟩:Ag hs:=am.dec.ae;subst iY;obtain⟨dz,dE,dF,iZ⟩:Ag ht:=am.af.ae;subst iZ;obtain⟨dG,dH,dJ,i1⟩:Ag hu:=am.ah.ae;subst i1;have i2:Hid (I1 cA=⟨.slice b5 c4 c5,.slice b6 c6 c7,.slice b7 c8 c9,.slice b8 c' da,.slice b9 db dc,.slice b' df dj,.slice dk dm dn,.slice p7 dq cg,.slice ds dx dy,.slice p9 n9 q9,.slice dz dE dF,.slice dG dH dJ⟩):=d1;have i3:=U (Apg cd.out iH.out iG.out iI.out hm.out);have i4:Hid (n9<=q9):=by
     have e:cA 9=.slice p9 n9 q9:=congrArg TV.a9 d1;exact g1.out p9 n9 q9 (dT.out.symm.trans e)
    have hv:AS wc g ⟨.slice b5 c4 c5,.slice b6 c6 c7,.slice b7 c8 c9,.slice b8 c' da,.slice b9 db dc,.slice b' df dj,.slice dk dm dn,.slice p7 dq cg,.slice ds dx dy,.slice p9 n9 q9,.slice dz dE dF,.slice dG dH dJ⟩:=by rw[<-d1];exact dU.out.box
    obtain⟨⟨i5,i6,i7,i8,i9,i_⟩,⟨i',ja,jb,jc,jd,jf⟩⟩:=hv.load;simp only at i5 i6 i7 i8 i9 i_ i' ja jb jc jd jf;obtain⟨jO,jP⟩:=L.out 0 O;obtain⟨jQ,jR⟩:=L.out 1 O;obtain⟨jS,jT⟩:=L.out 2 O;obtain⟨jU,jV⟩:=L.out 3 O;obtain⟨jW,jX⟩:=L.out 4 O;obtain⟨jY,jZ⟩:=L.out 5 O;obtain⟨j0,j1⟩:=L.out 6 O;obtain⟨j2,j3⟩:=L.out 7 O;obtain⟨j4,j5⟩:=L.out 8 O;obtain⟨j6,j8⟩:=L.out 9 O;obtain⟨j9,j_⟩:=L.out 10 O;obtain⟨j',ka⟩:=L.out 11 O;have jg:=L;clear L d1 hv hm am dU dT g1;go_wp2;obtain⟨hw,fP⟩:=Ags wc rb (.slice b5 c4 c5) (.slice b6 c6 c7) (.slice b7 c8 c9) (.slice b8 c' da) (.slice b9 db dc) (.slice b' df dj) (.slice dk dm dn) (.slice p7 dq cg) (.slice ds dx dy) (.slice p9 n9 q9) (.slice dz dE dF) (.slice dG dH dJ) jg.out;generalize (World.setCell (World.setCell (World.setCell (World.setCell (World.setCell (World.setCell (World.setCell (World.setCell (World.setCell (World.setCell (World.setCell (World.setCell wc ⟨rb,0,none⟩ (.slice b5 c4 c5)) ⟨rb,1,none⟩ (.slice b6 c6 c7)) ⟨rb,2,none⟩ (.slice b7 c8 c9)) ⟨rb,3,none⟩ (.slice b8 c' da)) ⟨rb,4,none⟩ (.slice b9 db dc)) ⟨rb,5,none⟩ (.slice b' df dj)) ⟨rb,6,none⟩ (.slice dk dm dn)) ⟨rb,7,none⟩ (.slice p7 dq cg)) ⟨rb,8,none⟩ (.slice ds dx dy)) ⟨rb,9,none⟩ (.slice p9 n9 q9)) ⟨rb,10,none⟩ (.slice dz dE dF)) ⟨rb,11,none⟩ (.slice dG dH dJ))=kb at hw fP|-;obtain⟨⟨hx,hy,hz,hA,hB,hC⟩,⟨hD,hE,hG,hH,hI,hJ⟩⟩:=hw.load;have hK:=(hn.out.keeps fP (λb _ e dV=>O)).tab;rw[i2.out]at hK;have jh:=ho.out.trans (fP.below ho.out.size (λb _ e=>O));simp only at hx hy hz hA hB hC hD hE hG hH hI hJ;refine FF (v:=.agg #[.slice b5 c4 c5,.slice b6 c6 c7,.slice b7 c8 c9,.slice b8 c' da,.slice b9 db dc,.slice b' df dj,.slice dk dm dn,.slice p7 dq cg,.slice ds dx dy,.slice p9 n9 q9,.slice dz dE dF,.slice dG dH dJ]) (by simp[results,results11,go_sem,hx,hy,hz,hA,hB,hC,hD,hE,hG,hH,hI,hJ]) rfl ?_;exact⟨⟨.slice b5 c4 c5,.slice b6 c6 c7,.slice b7 c8 c9,.slice b8 c' da,.slice b9 db dc,.slice b' df dj,.slice dk dm dn,.slice p7 dq cg,.slice ds dx dy,.slice p9 n9 q9,.slice dz dE dF,.slice dG dH dJ⟩,_,rfl,hK,i3.out,λp n c e=>by cases e;exact i4.out,jh⟩
end Go.Proofs.YtblcoicaeeiojaaGreatDoor
