/- The references of table: -/
import Derived.Test.YtblcoicaeeiojaaGreatDoorSOaPmTabK
set_option linter.all false
set_option maxHeartbeats 16000000
set_option maxRecDepth 100000
open Go.Proofs.Tryz
namespace Go.Proofs.YtblcoicaeeiojaaGreatDoor
open Go.RowKit
def M6(w:World)(g:Nat)(x:TV):Prop:=∀k,k<7->w.cell? ⟨g,k,none⟩=some (Yb x k)
def Oi(w:World)(g:Nat)(x:TV):Prop:=∀k,k<4->w.cell? ⟨g,k,none⟩=some (Xc x k)
theorem M6.below{w w':World}{g:Nat}{x:TV}(h:M6 w g x)(c:Below w.heap.size w w'):M6 w' g x:=λk b=>(c.cell (p:=⟨g,k,none⟩) (AN w _ (h k b))).trans (h k b)
theorem Oi.below{w w':World}{g:Nat}{x:TV}(h:Oi w g x)(c:Below w.heap.size w w'):Oi w' g x:=λk b=>(c.cell (p:=⟨g,k,none⟩) (AN w _ (h k b))).trans (h k b)
def CQ(w:World)(b:Array Value)(xs:List Int)(t:TypeId)(h:b.toList=xs.map (.int .i64)):Aq (w.alloc (.cells b t)) (some ⟨w.heap.size,0,none⟩) xs:=Azj
def NE:List Int:=[8,254,5,11,60,4,1]
def AjO(x:TV)(w:World)(e:Ending)(w':World):Prop:=
 ∃g h,e=.returned (.tuple #[.slice (some ⟨g,0,none⟩) 7 7,.slice (some ⟨h,0,none⟩) 7 7])/\M6 w' g x/\Aq w' (some ⟨h,0,none⟩) NE/\Below w.heap.size w w'
def X5(x:TV)(T:Y)(w:World)(b:Ah w x T):Calls prog 123 #[x.agg] w (AjO x w):=by
 obtain⟨a0,a1,a2,a3,a4,a5,b1,bs,bt,bv,bx,b0⟩:=x;obtain⟨c,e,m,rfl⟩:=b.cat.ae;obtain⟨q,s,A,rfl⟩:=b.ai.ae;obtain⟨C,F,G,rfl⟩:=b.al.ae;obtain⟨L,ac,ad,rfl⟩:=b.ak.ae;obtain⟨am,a9,a',rfl⟩:=b.aj.ae;obtain⟨ba,bb,bc,rfl⟩:=b.ag.ae;obtain⟨bd,be,bl,rfl⟩:=b.an.ae;clear b;simp only[TV.agg];go_enter func123,ntmps123;go_wp2;go_ret2;refine⟨_,_,rfl,λk b2=>?_,?_,(((Al _ _).alloc (Ac _) _).alloc J _).alloc Ae _⟩
 ·have h:k=0\/k=1\/k=2\/k=3\/k=4\/k=5\/k=6:=by omega
  rcases h with rfl|rfl|rfl|rfl|rfl|rfl|rfl<;>(refine(JR _ _ _ J).trans ?_;rw[show w.heap.size+1=(w.alloc (.cells #[.slice c e m,.slice q s A,.slice C F G,.slice L ac ad,.slice am a9 a',.slice ba bb bc,.slice bd be bl,bs,bt,bv,bx,b0] 26)).heap.size by simp,Cy];rfl)
 ·have:=CQ ((w.alloc (.cells #[.slice c e m,.slice q s A,.slice C F G,.slice L ac ad,.slice am a9 a',.slice ba bb bc,.slice bd be bl,bs,bt,bv,bx,b0] 26)).alloc (.cells #[.slice c e m,.slice q s A,.slice C F G,.slice L ac ad,.slice am a9 a',.slice ba bb bc,.slice bd be bl] 23)) #[.int .i64 8,.int .i64 254,.int .i64 5,.int .i64 11,.int .i64 60,.int .i64 4,.int .i64 1] NE 3 rfl;exact GG
def AjG(x:TV)(w:World)(e:Ending)(w':World):Prop:=
 ∃g,e=.returned (.slice (some ⟨g,0,none⟩) 4 4)/\Oi w' g x/\Below w.heap.size w w'
def X2(x:TV)(T:Y)(w:World)(b:Ah w x T):Calls prog 124 #[x.agg] w (AjG x w):=by
 obtain⟨a0,a1,a2,a3,a4,a5,c,a',ba,bb,e,bc⟩:=x;obtain⟨m,q,s,rfl⟩:=b.ext.ae;obtain⟨A,C,F,rfl⟩:=b.map.ae;obtain⟨G,L,ac,rfl⟩:=b.dec.ae;obtain⟨ad,am,a9,rfl⟩:=b.ah.ae;clear b;simp only[TV.agg];go_enter func124,ntmps124;go_wp2;go_ret;refine⟨_,rfl,λk bd=>?_,((Al _ _).alloc (Ac _) _).alloc J _⟩;have h:k=0\/k=1\/k=2\/k=3:=O;rcases h with rfl|rfl|rfl|rfl<;>(rw[show w.heap.size+1=(w.alloc (.cells #[a0,a1,a2,a3,a4,a5,c,.slice m q s,.slice A C F,.slice G L ac,e,.slice ad am a9] 26)).heap.size by simp,Cy];rfl)
theorem M6.at_{w0 w:World}{g:Nat}{x:TV}{T:Y}(h:M6 w g x)(m:Ah w0 x T)(k:Nat)(b:k<7):∃p n c l,(BF T).getD k []=l/\l.length=n/\n<=17592186043904/\Cs w0 p l/\w.cell? ⟨g,k,none⟩=some (.slice p n c):=by
 obtain⟨p,c,e,q,s⟩:=m.sp k b;exact⟨p,_,c,_,rfl,rfl,s,q,by rw[h k b,e]⟩
theorem Oi.at_{w0 w:World}{g:Nat}{x:TV}{T:Y}(h:Oi w g x)(m:Ah w0 x T)(k:Nat)(b:k<4):∃p n c l,(C_ T).getD k []=l/\l.length=n/\n<=17592186043904/\J6 w0 p l/\w.cell? ⟨g,k,none⟩=some (.slice p n c):=by
 obtain⟨p,c,e,q,s⟩:=m.mp k b;exact⟨p,_,c,_,rfl,rfl,s,q,by rw[h k b,e]⟩
def As4(x:TV)(T:Y)(w:World)(F:Ah w x T):Calls prog 83 #[x.agg] w (Ar (.bool (r1 T)) w):=by
 obtain⟨a0,a1,a2,a3,a4,a5,cb,cc,cd,cf,cg,ci⟩:=x;obtain⟨cj,ce,G,_,bd⟩:=F.af;obtain⟨ne,L⟩:∃n,T.af.length=n:=⟨_,rfl⟩;rw[L]at G bd;simp only at G;subst G;have ad:=U (Am.new F);have bb:=U L;clear F L;simp only[TV.agg];go_enter func83,ntmps83;go_wp2_with fail;refine(X5 _ T _ ad.out.tab).mono ?_;rintro e w1 ⟨g,h,rfl,am,_,a9⟩;have be:=U am;have m:=U (ad.out.step a9);clear a9 am;go_wp2;go_loop[6,17] (λv i=>∃k:Nat,k<=7/\i=.int .i64 k/\Hid (((BF T).take k).all GS=true)) (λ_ i=>7-(intOf i).toNat)
 case atStart=>exact⟨0,O,rfl,rfl⟩
 case round=>
  obtain⟨k,bl,rfl,cI⟩:=hrel;by_cases q:k<7
  ·obtain⟨p,n,c,l,s,A,bt,_,bv⟩:=be.out.at_ m.out.tab k q;have b:=Ul GS q cI.out;rw[s,GS,A]at b;have C:=U b;clear s A b;by_cases bx:256<n
   ·have bs:Hid (r1 T=false):=by
     unfold Hid r1;rw[D4 GS (BF T) (k+1) (by rw[C.out];simp;omega)];rfl
    go_wp2;go_ret;rw[bs.out];exact⟨rfl,m.out.ab⟩
   ·have d8:Hid (((BF T).take (k+1)).all GS=true):=by unfold Hid;rw[C.out];simp;omega
    exact ZG
  ·obtain rfl:k=7:=by omega
   have kM:Hid ((BF T).all GS=true):=YO;have a':=m.out.box;simp only[AS]at a';obtain⟨⟨b0,b1,b2,b3,b4,b5⟩,⟨b6,b7,b8,b9,ac,b'⟩⟩:=a';go_wp2_with fail;refine(X2 _ T _ m.out.tab).mono ?_;rintro e w2 ⟨cl,rfl,ba,bc⟩;have ca:=U ba;have dL:=U (m.out.step bc);clear bc ba b0 b1 b2 b3 b4 b5 b6 b7 b8 b9 ac b';go_wp2;go_loop[9,29] (λv i=>∃k:Nat,k<=4/\i=.int .i64 k/\Hid (((C_ T).take k).all Gs=true)) (λ_ i=>4-(intOf i).toNat)
   case atStart=>exact⟨0,O,rfl,rfl⟩
   case round=>
    obtain⟨k,bl,rfl,cI⟩:=hrel;by_cases q:k<4
    ·obtain⟨p,n,c,l,s,A,bt,_,bv⟩:=ca.out.at_ dL.out.tab k q;have b:=Aea Gs q cI.out;rw[s,Gs,A]at b;have C:=U b;clear s A b;by_cases bx:256<n
     ·have bs:Hid (r1 T=false):=by
       unfold Hid r1;rw[D4 Gs (C_ T) (k+1) (by rw[C.out];simp;omega)];exact J
      exact Ahn
     ·have d8:Hid (((C_ T).take (k+1)).all Gs=true):=by unfold Hid;rw[C.out];simp;omega
      exact ZG
    ·obtain rfl:k=4:=by omega
     have lS:Hid ((C_ T).all Gs=true):=AxD;have dm:Hid (r1 T=decide (ne<=256)):=Axc;have ac:=dL.out.box.2.2.2.2.2.1;simp only at ac;go_wp2;go_ret;exact⟨Lo AxC,dL.out.ab⟩
abbrev M9:Value:=.agg #[.int .i64 0,.int .i64 127,.int .i64 55296,.int .i64 57343,.int .i64 44032,.int .i64 55203,.int .i64 4352,.int .i64 4370,.int .i64 4449,.int .i64 4469,.int .i64 4520,.int .i64 4546]
def Kd:List (Int × Int):=[(0,127),(55296,57343),(44032,55203),(4352,4370),(4449,4469),(4520,4546)]
def Ald(f t:Int):Eo f t=Kd.any (Hq f t):=by
 simp only[Eo,Kd,Hq,MQ,List.any_nil,U6];cases GW f t 0 127<;>cases GW f t 4352 4370<;>cases GW f t 4449 4469<;>cases GW f t 4520 4546<;>cases GW f t 44032 55203<;>cases GW f t 55296 57343<;>rfl
def Ale(k:Nat)(b:k<6)(w:World):(Instr.index 162 M9 (.int .i64 k)).run prog w=.ok (.agg #[.int .i64 (Kd.getD k (0,0)).1,.int .i64 (Kd.getD k (0,0)).2]) w:=by
 have h:k=0\/k=1\/k=2\/k=3\/k=4\/k=5:=O;rcases h with rfl|rfl|rfl|rfl|rfl|rfl
 ·exact(show (Instr.index 162 M9 (.int .i64 0)).run prog w=.ok (.agg #[.int .i64 0,.int .i64 127]) w by kernel_rfl)
 ·exact(show (Instr.index 162 M9 (.int .i64 1)).run prog w=.ok (.agg #[.int .i64 55296,.int .i64 57343]) w by kernel_rfl)
 ·exact(show (Instr.index 162 M9 (.int .i64 2)).run prog w=.ok (.agg #[.int .i64 44032,.int .i64 55203]) w by kernel_rfl)
 ·exact(show (Instr.index 162 M9 (.int .i64 3)).run prog w=.ok (.agg #[.int .i64 4352,.int .i64 4370]) w by kernel_rfl)
 ·exact(show (Instr.index 162 M9 (.int .i64 4)).run prog w=.ok (.agg #[.int .i64 4449,.int .i64 4469]) w by kernel_rfl)
 ·exact(show (Instr.index 162 M9 (.int .i64 5)).run prog w=.ok (.agg #[.int .i64 4520,.int .i64 4546]) w by kernel_rfl)
def Alc(f t v:Int)(B:Bool)(w:World)(C:Hid (Eo f t=B)):Calls prog 126 #[.agg #[.int .i64 f,.int .i64 t,.int .i64 v]] w (Ar (.bool (!B)) w):=by
 have F:=U (Ald f t);have G:(w.alloc (.cells #[.int .i64 f,.int .i64 t,.int .i64 v] 66)).cell? ⟨w.heap.size,0,none⟩=some (.int .i64 f):=EL;have L:(w.alloc (.cells #[.int .i64 f,.int .i64 t,.int .i64 v] 66)).cell? ⟨w.heap.size,1,none⟩=some (.int .i64 t):=EL;have bc:=U G;have bd:=U L;have ac:Hid (Below w.heap.size w (w.alloc (.cells #[.int .i64 f,.int .i64 t,.int .i64 v] 66))):=(Al _ _).alloc (Ac _) _;clear G L;go_enter func126,ntmps126;go_wp2;go_loopw[12] (λi wr=>∃k:Nat,k<=6/\i=.int .i64 k/\Hid ((Kd.take k).any (Hq f t)=false)/\Hid (Below (w.alloc (.cells #[.int .i64 f,.int .i64 t,.int .i64 v] 66)).heap.size (w.alloc (.cells #[.int .i64 f,.int .i64 t,.int .i64 v] 66)) wr)) (λi _=>6-(intOf i).toNat)
 case atStart=>exact⟨0,O,rfl,rfl,Al _ _⟩
 case round=>
  obtain⟨k,bt,rfl,am,ad⟩:=hrel;by_cases a9:k<6
  ·have a':=Ale k a9;have c:=SG (Hq f t) Kd k (0,0) (by simpa[Kd] using a9);rw[am.out,FE]at c;obtain⟨⟨a,b⟩,ba⟩:∃r,Kd.getD k (0,0)=r:=⟨_,rfl⟩;rw[ba]at a' c;simp only[Hq,GW]at c;simp only at a';have m:=U c;have q:w.heap.size<(w.alloc (.cells #[.int .i64 f,.int .i64 t,.int .i64 v] 66)).heap.size:=J;have e:=(ad.out.cell (p:=⟨w.heap.size,0,none⟩) q).trans bc.out;have h:=(ad.out.cell (p:=⟨w.heap.size,1,none⟩) q).trans bd.out;have bl:Hid ((wr.alloc (.cells #[.int .i64 a,.int .i64 b] 161)).cell? ⟨w.heap.size,0,none⟩=some (.int .i64 f)):=(JR wr _ ⟨w.heap.size,0,none⟩ (AN wr _ e)).trans e;have bs:Hid ((wr.alloc (.cells #[.int .i64 a,.int .i64 b] 161)).cell? ⟨w.heap.size,1,none⟩=some (.int .i64 t)):=(JR wr _ ⟨w.heap.size,1,none⟩ (AN wr _ h)).trans h;clear c ba q e h;have e:=bl.out;have h:=bs.out;by_cases s:f<=b
   ·by_cases be:a<=t
    ·have A:Hid (B=true):=by
      unfold Hid;rw[<-C.out,F.out];exact SF _ _ (k+1) (by rw[m.out];simp[s,be])
     go_wp2;go_ret;exact⟨by rw[A.out];rfl,ac.out.trans ((ad.out.alloc ad.out.size _).mono J)⟩
    ·have bb:Hid ((Kd.take (k+1)).any (Hq f t)=false):=by unfold Hid;rw[m.out];simp[be]
     exact AAC
   ·have bb:Hid ((Kd.take (k+1)).any (Hq f t)=false):=by unfold Hid;rw[m.out];simp[s]
    have fH:decide (f<=b)=false:=Ai s;exact AiB
  ·obtain rfl:k=6:=by omega
   have A:Hid (B=false):=by unfold Hid;rw[<-C.out,F.out];exact am.out
   go_wp2;go_ret;exact⟨by rw[A.out];rfl,ac.out.trans (ad.out.mono J)⟩
def rk(k:Nat)(c:Int):Bool:=Bz c && !(decide (k=3)&&F9 c)
def C9(k:Nat)(l:List Mp):Bool:=AL 0 1114111 (AC l)&&l.all λm=>!rk k m.1
def WK{k:Nat}(b:k<3)(l:List Mp):C9 k l=Cx (AC l):=by
 unfold C9 Cx AC;rw[List.all_map];congr 2;funext m;simp only[rk,Function.comp,Ai (show ¬k=3 by omega),Bool.false_and,Bool.not_false,JP]
def AoF(l:List Mp):C9 3 l=Nw (AC l):=by
 unfold C9 Nw AC;rw[List.all_map];congr 1
def Afi(T:Y):r2 T=((BF T).all BA&&(C9 0 T.ext&&(C9 1 T.map&&(C9 2 T.dec&&(C9 3 T.ah&&Cx T.af))))):=by
 unfold r2;rw[WK O,WK O,WK O,AoF]
def Adm(k:Nat)(a:List Mp)(m:Mp):C9 k (a++[m])=true↔C9 k a=true/\BT 0 (AC a)<=m.1/\m.1<=1114111/\rk k m.1=false:=by
 have e:AC (a++[m])=AC a++[m.1]:=by simp[AC]
 simp only[C9,AJ,e,L7,IE,DQ,Gf,JP,N7];exact AvJ
def Aki{k:Nat}{l:List Mp}(h:C9 k l=true):AL 0 1114111 (AC l)=true:=by
 simp only[C9,AJ]at h;exact h.1
def AoE{k:Nat}{l:List Mp}(i:Nat)(h:C9 k (l.take i)=false):C9 k l=false:=by
 cases b:C9 k l with
 | false=>rfl
 | true =>
  simp only[C9,AJ]at b;have c:=VE i b.1;rw[<-Am9]at c;have:C9 k (l.take i)=true:=by
   simp only[C9,AJ];exact⟨c,AR.2 λx e=>AR.1 b.2 x (KW e)⟩
  rw[this]at h;cases h
def Adn(a:List Int)(c:Int):Cx (a++[c])=true↔Cx a=true/\BT 0 a<=c/\c<=1114111/\Bz c=false:=by
 simp only[Cx,AJ,L7,IE,DQ,Gf,JP,N7];exact AvJ
def Aa4{l:List Int}(h:Cx l=true):AL 0 1114111 l=true:=by
 simp only[Cx,AJ]at h;exact h.1
def AoG{l:List Int}(i:Nat)(h:Cx (l.take i)=false):Cx l=false:=by
 cases b:Cx l with
 | false=>rfl
 | true =>
  simp only[Cx,AJ]at b;have:Cx (l.take i)=true:=by
   simp only[Cx,AJ];exact⟨VE i b.1,AR.2 λx c=>AR.1 b.2 x (KW c)⟩
  rw[this]at h;cases h
def Ua(c:Int)(B:Bool)(w:World)(b:Hid (Bz c=B)):Calls prog 127 #[.int .i64 c] w λe w'=>e=.returned (.bool B)/\w'=w:=
 (AsY c w).mono λe w' h=>⟨by rw[<-b.out];exact h.1,h.2.symm⟩
def X1(c:Int)(B:Bool)(w:World)(b:Hid (F9 c=B)):Calls prog 79 #[.int .i64 c] w λe w'=>e=.returned (.bool B)/\w'=w:=
 (AfR c w).mono λe w' h=>⟨by rw[<-b.out];exact h.1,h.2.symm⟩
def Ad'{T:Y}(q:(k:Nat)->List Mp->Bool)(h:∀j,j<4->q j ((C_ T).getD j [])=true):q 0 T.ext=true/\q 1 T.map=true/\q 2 T.dec=true/\q 3 T.ah=true:=
 ⟨h 0 O,h 1 O,h 2 O,h 3 O⟩
def ApF{T:Y}{j:Nat}(b:j<4)(h:C9 j ((C_ T).getD j [])=false):r2 T=false:=by
 rw[Afi];have:j=0\/j=1\/j=2\/j=3:=O;rcases this with rfl|rfl|rfl|rfl
 ·rw[show C9 0 T.ext=false from h];simp
 ·rw[show C9 1 T.map=false from h];simp
 ·rw[show C9 2 T.dec=false from h];simp
 ·rw[show C9 3 T.ah=false from h];simp
def G7(k:Nat)(a:List Int):Bool:=if k=0 then AL 3 60 a else a.all AA
def Hp(k:Nat)(a:List Int)(c:Int):Bool:=if k=0 then decide (BT 3 a<=c)&&decide (c<=60)else AA c
def O4(k:Nat)(m:Mp):Bool:=decide (1<=m.2.length)&&decide (m.2.length<=18)&&G7 k m.2
def Km(k:Nat)(l:List Mp):Bool:=l.all (O4 k)
def Amb(k:Nat)(a:List Int)(c:Int):G7 k (a++[c])=(G7 k a&&Hp k a c):=by
 unfold G7 Hp;by_cases h:k=0
 ·rw[N h,N h,N h,Gd,AJ,AJ,L7];simp
 ·rw[V h,V h,V h];simp
def Amc{k:Nat}{a:List Int}(i:Nat)(h:G7 k (a.take i)=false):G7 k a=false:=by
 unfold G7 at h|-;by_cases b:k=0
 ·rw[N b]at h|-;exact Aa5 i h
 ·rw[V b]at h|-;exact D4 _ _ i h
def Afn(T:Y):r4 T=(Km 0 T.ext&&(Km 1 T.map&&(Km 2 T.dec&&Km 3 T.ah))):=rfl
def ApE{T:Y}(q:(k:Nat)->List Mp->Bool)(h:∀j,j<4->q j ((C_ T).getD j [])=true):(q 0 T.ext&&(q 1 T.map&&(q 2 T.dec&&q 3 T.ah)))=true:=by
 obtain⟨b,c,e,m⟩:=Ad' q h;rw[b,c,e,m];rfl
def ApG{T:Y}(q:(k:Nat)->List Mp->Bool){j:Nat}(b:j<4)(h:q j ((C_ T).getD j [])=false):(q 0 T.ext&&(q 1 T.map&&(q 2 T.dec&&q 3 T.ah)))=false:=by
 have:j=0\/j=1\/j=2\/j=3:=O;rcases this with rfl|rfl|rfl|rfl
 ·rw[show q 0 T.ext=false from h];simp
 ·rw[show q 1 T.map=false from h];simp
 ·rw[show q 2 T.dec=false from h];simp
 ·rw[show q 3 T.ah=false from h];simp
def Af0(c:Int)(B:Bool)(w:World)(b:Hid (AA c=B)):Calls prog 44 #[.int .i64 c] w λe w'=>e=.returned (.bool B)/\w=w':=b.out▸As1 c w
def As2(x:TV)(T:Y)(w:World)(b':Ah w x T):Calls prog 86 #[x.agg] w (Ar (.bool (r4 T)) w):=by
 have ca:=U (Am.new b');clear b';simp only[TV.agg];go_enter func86,ntmps86;go_wp2_with fail;refine(X2 _ T _ ca.out.tab).mono ?_;rintro e w1 ⟨g,rfl,cb,cc⟩;have cD:=U cb;have fI:=U (ca.out.step cc);clear cc cb;go_wp2;obtain⟨bc,rfl⟩:∃bc:World,bc=w1:=⟨_,rfl⟩;go_loopw[14] (λi wr=>∃k:Nat,k<=4/\i=.int .i64 k/\Hid (∀j,j<k->Km j ((C_ T).getD j [])=true)/\Hid (Below bc.heap.size bc wr)) (λi _=>4-(intOf i).toNat)
 case atStart=>exact⟨0,O,rfl,λj cd=>absurd cd (FH _),Al _ _⟩
 case round=>
  obtain⟨k,dG,rfl,cI,cC⟩:=hrel;by_cases ce:k<4
  ·obtain⟨p,n,c,l,bx,cf,dH,cg,dJ⟩:=(cD.out.below cC.out).at_ (fI.out.step cC.out).tab k ce;have cF:Hid (Km k l=false->r4 T=false):=λh=>by
    rw[Afn];exact ApG Km ce (by rw[bx];exact h)
   have kg:=U bx;have cO:=U cg;have eu:=U cf;have jF:=U (fI.out.step cC.out);clear bx cf cg;have dK:(0:Int)<=(k:Int):=O;have dL:(k:Int)<4:=O;go_wp2;obtain⟨bd,rfl⟩:∃bd:World,bd=wr:=⟨_,rfl⟩;go_loopw[21] (λi wr=>∃j:Nat,j<=n/\i=.int .i64 j/\Hid ((l.take j).all (O4 k)=true)/\Hid (Below bd.heap.size bd wr)) (λi _=>n-(intOf i).toNat)
   case atStart=>exact⟨0,Au _,rfl,rfl,Al _ _⟩
   case round=>
    obtain⟨j,cd,rfl,f8,dM⟩:=hrel;by_cases c2:j<n
    ·have ci:j<l.length:=by rw[eu.out];exact c2
     obtain⟨b,ff,v,rfl,b0,b2,G⟩:=(cO.out.below dM.out) j ci;have L:=Fj (O4 k) l j Ay ci;rw[f8.out,BG]at L;obtain⟨⟨f,tl⟩,cj⟩:∃s,l.getD j Ay=s:=⟨_,rfl⟩;rw[cj]at b0 G L;obtain⟨am,a9,rfl,b3,cl⟩:=G;obtain⟨A,be⟩:∃n,tl.length=n:=⟨_,rfl⟩;simp only at b0 b2 cl b3;rw[be]at b2 cl;simp only[O4]at L;rw[be]at L;have cm:=U L;have co:=U be;have b4:Hid ((decide (1<=A)&&decide (A<=18)&&G7 k tl)=false->r4 T=false):=λh=>cF.out (by
      unfold Km;exact D4 _ l (j+1) (by rw[cm.out];exact h))
     have b5:=U (b3.below ((Al _ _).alloc (Ac _) (.cells #[.int .i64 f,.slice am A a9] 73)));have eU:=U (dM.out.alloc dM.out.size (.cells #[.int .i64 f,.slice am A a9] 73));have cp:(wr.alloc (.cells #[.int .i64 f,.slice am A a9] 73)).cell? ⟨wr.heap.size,1,none⟩=some (.slice am A a9):=EL;have bl:=U cp;clear cj L be b3 cp;by_cases b6:A<1
     ·have c3:decide ((A:Int)<1)=true:=At O;have bs:=U (b4.out (by rw[Ai (show ¬1<=A by omega)];rfl));clear b6;exact Av1
     ·have c3:decide ((A:Int)<1)=false:=Ai O;by_cases c4:18<A
      ·have c5:decide ((18:Int)<A)=true:=At O;have bs:=U (b4.out (by rw[Ai (show ¬A<=18 by omega),Ib];rfl));clear b6 c4;exact Av1
      ·have c5:decide ((18:Int)<A)=false:=Ai O;have c6:Hid (G7 k tl=false->r4 T=false):=λh=>b4.out (by rw[h,Ib]);have c7:Hid (G7 k tl=true->(l.take (j+1)).all (O4 k)=true):=λh=>by
        rw[cm.out,h,At (show 1<=A by omega),At (show A<=18 by omega)];rfl
       clear b6;go_wp2;obtain⟨C,cq⟩:∃C:World,C=wr.alloc (.cells #[.int .i64 f,.slice am A a9] 73):=⟨_,rfl⟩;obtain⟨q,cr⟩:∃q:Nat,q=wr.heap.size:=⟨_,rfl⟩;rw[<-cq]at b5 eU bl|-;simp only[<-cr]at bl|-;clear cq cr b0 b2 dM;obtain⟨cs,c8⟩:∃K,((k:Int)==0)=K:=⟨_,rfl⟩;have F:Hid (decide (k=0)=cs):=by unfold Hid;rw[<-c8];exact Of.2 O
       go_loopw[38] (λi wr=>∃a:Nat,a<=A/\i=.int .i64 a/\Hid (G7 k (tl.take a)=true)/\Hid (Below C.heap.size C wr)) (λi _=>A-(intOf i).toNat)
       case atStart=>exact⟨0,Au _,rfl,by unfold Hid G7;split<;>rfl,Al _ _⟩
       case round=>
        obtain⟨a,dN,rfl,bt,a'⟩:=hrel;by_cases c9:a<A
        ·have ct:a<tl.length:=by rw[co.out];exact c9
         obtain⟨dO,dP,rfl,c'⟩:=(b5.out.below a'.out) a ct;have b7:G7 k (tl.take (a+1))=Hp k (tl.take a) (tl.getD a 0):=by
          rw[C4 tl a ct,Amb,bt.out,BG]
         obtain⟨m,da⟩:∃c,tl.getD a 0=c:=⟨_,rfl⟩;rw[da]at c' b7;have cu:=U b7;have dQ:=(a'.out.cell (p:=⟨q,1,none⟩) (AN C _ bl.out)).trans bl.out;clear b7;obtain⟨Z,cv⟩:∃Z,Hid (AA m=Z):=⟨_,rfl⟩;have db:=U bt.out;have lV:=U a'.out;clear a' bt;go_upto_region 13 with(fail);go_cut[75] (λdc df=>∃B:Bool,dc=.bool B/\Hid (B = !Hp k (tl.take a) m)/\Hid (Below C.heap.size C df))
         case first=>
          cases cs with
          | false =>
           have dj:decide ((0:Int)<(k:Int))=true:=by
            have:=Fc F.out;exact At O
           have dk:0<k:=Nat.pos_of_ne_zero (Fc F.out);have ac:Hid (Hp k (tl.take a) m=Z):=by
            unfold Hid Hp;rw[V (Fc F.out),cv.out]
           go_wp2_with fail;refine(Af0 m Z _ cv).mono ?_;rintro e dR ⟨rfl,rfl⟩;go_wp2_with fail;go_meet;exact⟨!Z,rfl,by unfold Hid;rw[ac.out],lV⟩
          | true =>
           have dj:decide ((0:Int)<(k:Int))=false:=by
            have:=If F.out;exact Ai O
           have dk:¬0<k:=by have:=If F.out;omega
           have ac:Hid (Hp k (tl.take a) m=(decide (BT 3 (tl.take a)<=m)&&decide (m<=60))):=by
            unfold Hid Hp;rw[N (If F.out)]
           have dn:Hid (AL 3 60 (tl.take a)=true):=by
            have:=db.out;unfold G7 at this;rwa[N (If F.out)]at this
           have dq:=U (Qp dn.out);by_cases ad:m<3
           ·have ds:decide (m<3)=true:=At ad;have b1:Hid (true = !Hp k (tl.take a) m):=by
             unfold Hid;rw[ac.out];have:=dq.out;rw[Ai (show ¬BT 3 (tl.take a)<=m by omega)];rfl
            clear ad;exact Ahj
           ·have ds:decide (m<3)=false:=Ai ad;by_cases ba:60<m
            ·have dx:decide (60<m)=true:=At ba;have b1:Hid (true = !Hp k (tl.take a) m):=by
              unfold Hid;rw[ac.out,Ai (show ¬m<=60 by omega),Ib];rfl
             clear ad ba;exact Ahj
            ·have dx:decide (60<m)=false:=Ai ba;cases a with
             | zero =>
              have b1:Hid (false = !Hp k (tl.take 0) m):=by
               unfold Hid;rw[ac.out,At (show m<=60 by omega),JP,show BT 3 (tl.take 0)=3 from rfl,At (show 3<=m by omega)];rfl
              clear ad ba;exact AvV
             | succ i =>
              have cx:i<tl.length:=O;obtain⟨dS,dT,b8,dy⟩:=(b5.out.below lV.out) i cx;injection b8 with b8;injection b8 with dz dE;subst dz;subst dE;have cy:Hid (BT 3 (tl.take (i+1))=tl.getD i 0+1):=by
               unfold Hid;rw[C4 tl i cx];exact Me _ _ _
              obtain⟨bb,cA⟩:∃s,tl.getD i 0=s:=⟨_,rfl⟩;rw[cA]at dy cy;have dU:(0:Int)<(i:Int)+1:=O;have dV:(0:Int)<=(i:Int):=O;have dW:(i:Int)<(A:Int):=O;have dX:IntKind.i64.wrap ((i:Int)+1-1)=i:=H_;have dY:IntKind.i64.wrap (i:Int)=i:=AT _ O;have b1:Hid (decide (m<=bb) = !Hp k (tl.take (i+1)) m):=by
               unfold Hid;rw[ac.out,cy.out,At (show m<=60 by omega),JP];by_cases h:m<=bb
               ·rw[At h,Ai (show ¬bb+1<=m by omega)];rfl
               ·rw[Ai h,At (show bb+1<=m by omega)];rfl
              obtain⟨D,dF⟩:∃D,decide (m<=bb)=D:=⟨_,rfl⟩;rw[dF]at b1;clear cA ad ba;cases D with
              | true =>
               exact Ahj
              | false =>
               exact AvV
         case rest=>
          obtain⟨B,rfl,bv,cB⟩:=hcut;cases B
          ·have b9:Hid (G7 k (tl.take (a+1))=true):=by
            unfold Hid;rw[cu.out];have:=bv.out;cases G:Hp k (tl.take a) m with
            | true=>rfl
            | false=>rw[G]at this;cases this
           clear bv;go_wp2;go_roundw
           case rel=>exact⟨a+1,O,An,b9,cB⟩
           case measure=>simp[intOf];omega
          ·have bs:Hid (r4 T=false):=by
            unfold Hid;apply c6.out;apply Amc (a+1);rw[cu.out];have:=bv.out;cases G:Hp k (tl.take a) m with
            | true=>rw[G]at this;cases this
            | false=>rfl
           clear bv;go_wp2;go_ret;rw[bs.out];exact⟨rfl,(jF.out.step (eU.out.trans (cB.out.mono eU.out.size))).ab⟩
        ·obtain rfl:a=A:=by omega
         have b9:Hid ((l.take (j+1)).all (O4 k)=true):=by
          have:=bt.out;rw[AO (BW co.out)]at this;exact c7.out this
         go_wp2;go_roundw
         case rel=>exact⟨j+1,O,An,b9,U (eU.out.trans (a'.out.mono eU.out.size))⟩
         case measure=>simp[intOf];omega
    ·obtain rfl:j=n:=by omega
     have d8:Hid (∀i,i<k+1->Km i ((C_ T).getD i [])=true):=by
      intro i dI;exact Azk
     exact AyA
  ·obtain rfl:k=4:=by omega
   have dm:Hid (r4 T=true):=by unfold Hid;rw[Afn];exact ApE Km cI.out
   exact AvS
def As6{w w0:World}{p:Option Addr}{n c:Nat}{l:List Sp}(B:Bool)(b:Hid (l.length=n))(e:n<=256)(h:Cs w p l)(k:Hid (AH 0 l=B)):Calls prog 125 #[.slice p n c,.int .i64 0,.int .i64 1114111] w (Ar (.bool B) w):=
 ArV p n c l 0 1114111 B w b BQ h (by unfold Hid;rw[Agh (by rw[b.out];exact e)];exact k.out)
def AsR(x:TV)(T:Y)(w:World)(cd:Ah w x T)(q:r1 T=true):Calls prog 84 #[x.agg] w (Ar (.bool (r2 T)) w):=by
 obtain⟨a0,a1,a2,a3,a4,a5,cv,cx,cy,cA,ee,cB⟩:=x;obtain⟨cf,ce,ad,cC,dE⟩:=cd.af;obtain⟨ne,cg⟩:∃n,T.af.length=n:=⟨_,rfl⟩;rw[cg]at ad dE;simp only at ad;subst ad;have cD:=U (Am.new cd);have bb:=U cg;have dF:=U cC;have dG:=U q;clear cd cg cC q;simp only[TV.agg];go_enter func84,ntmps84;go_wp2_with fail;refine(X5 _ T _ cD.out.tab).mono ?_;rintro e w1 ⟨g,h,rfl,cF,_,cO⟩;have a':=U cF;have dH:=U (cD.out.step cO);clear cO cF;go_wp2;go_loopw[23] (λi wr=>∃k:Nat,k<=7/\i=.int .i64 k/\Hid (((BF T).take k).all BA=true)/\Hid (Am w ⟨a0,a1,a2,a3,a4,a5,cv,cx,cy,cA,.slice cf ne ce,cB⟩ T wr)/\Hid (M6 wr g ⟨a0,a1,a2,a3,a4,a5,cv,cx,cy,cA,.slice cf ne ce,cB⟩)) (λi _=>7-(intOf i).toNat)
 case atStart=>exact⟨0,O,rfl,rfl,dH,a'⟩
 case round=>
  obtain⟨k,dJ,rfl,cI,ad,c2⟩:=hrel;by_cases ci:k<7
  ·obtain⟨p,n,c,l,bt,bv,b2,b3,c3⟩:=c2.out.at_ ad.out.tab k ci;have cj:=Ul BA ci cI.out;have cl:=AcI dG.out k ci;rw[bt]at cj cl;rw[bv]at cl;have c4:=U cj;have b4:=U b3;have eu:=U bv;have b':Hid (BA l=false->r2 T=false):=λh=>by
    unfold r2;rw[D4 BA (BF T) (k+1) (by rw[c4.out,h])];rfl
   obtain⟨B,cm⟩:∃B,Hid (AH 0 l=B):=⟨_,rfl⟩;clear bt cj bv b3;go_wp2_with fail;refine(As6 (w0:=w) B eu cl b4.out cm).mono ?_;rintro e w2 ⟨rfl,ba⟩;have dL:=U (ad.out.step ba);have dK:=U (c2.out.below ba);have dN:=U (b4.out.below ba);clear ba c3;cases B with
   | false =>
    have bs:=U (b'.out (by unfold BA;rw[cm.out];rfl));exact Ahn
   | true =>
    go_wp2;obtain⟨am,rfl⟩:∃am:World,am=w2:=⟨_,rfl⟩;go_loopw[32] (λi wr=>∃j:Nat,j<=n/\i=.int .i64 j/\Hid ((l.take j).all (λs=>!Eo s.1 s.2.1)=true)/\Hid (Below am.heap.size am wr)) (λi _=>n-(intOf i).toNat)
    case atStart=>exact⟨0,Au _,rfl,DH,Al _ _⟩
    case round=>
     obtain⟨j,ca,rfl,c5,A⟩:=hrel;by_cases dO:j<n
     ·have G:j<l.length:=by rw[eu.out];exact dO
      obtain⟨b,ff,rfl,bc,b5,c6⟩:=(dN.out.below A.out) j G;have bx:=Fj (λs:Sp=>!Eo s.1 s.2.1) l j A_ G;rw[c5.out,BG]at bx;obtain⟨⟨f,t,v⟩,ac⟩:∃s,l.getD j A_=s:=⟨_,rfl⟩;rw[ac]at bc b5 c6 bx;obtain⟨C,f3⟩:∃C,Hid (Eo f t=C):=⟨_,rfl⟩;simp only at bx;rw[f3.out]at bx;have c7:=U bx;clear ac bx;have eU:=U (A.out.alloc A.out.size (.cells #[.int .i64 f,.int .i64 t,.int .i64 v] 66));go_wp2_with fail;refine(Alc f t v C _ f3).mono ?_;rintro e ef ⟨rfl,dM⟩;have c8:=U (eU.out.trans (dM.mono eU.out.size));clear dM bc b5 c6;cases C with
      | true =>
       have bs:=U (b'.out (by
        unfold BA
        rw[D4 _ l (j+1) (by rw[c7.out];rfl),Ib]))
       go_wp2;go_ret;rw[bs.out];exact⟨rfl,(dL.out.step c8.out).ab⟩
      | false =>
       have b6:Hid ((l.take (j+1)).all (λs=>!Eo s.1 s.2.1)=true):=c7.out;go_wp2;go_roundw
       case rel=>exact⟨j+1,O,An,b6,c8⟩
       case measure=>simp[intOf];omega
     ·obtain rfl:j=n:=by omega
      have b6:Hid (((BF T).take (k+1)).all BA=true):=by
       have:=c5.out;rw[AO (BW eu.out)]at this;unfold Hid;rw[c4.out,BA,cm.out,this];rfl
      go_wp2;go_roundw
      case rel=>exact⟨k+1,O,An,b6,dL.out.step A.out,dK.out.below A.out⟩
      case measure=>simp[intOf];omega
  ·obtain rfl:k=7:=by omega
   have dP:Hid ((BF T).all BA=true):=YO;have b7:=ad.out.box;simp only[AS]at b7;obtain⟨⟨dQ,dR,dS,dT,dU,dV⟩,⟨dW,dX,dY,dZ,cb,d0⟩⟩:=b7;go_wp2_with fail;refine(X2 _ T _ ad.out.tab).mono ?_;rintro e w2 ⟨eg,rfl,c9,ba⟩;have d1:=U c9;have dL:=U (ad.out.step ba);clear ba c9 dQ dR dS dT dU dV dW dX dY dZ cb d0;go_wp2;obtain⟨am,rfl⟩:∃am:World,am=w2:=⟨_,rfl⟩;go_loopw[45] (λi wr=>∃k:Nat,k<=4/\i=.int .i64 k/\Hid (∀j,j<k->C9 j ((C_ T).getD j [])=true)/\Hid (Below am.heap.size am wr)) (λi _=>4-(intOf i).toNat)
   case atStart=>exact⟨0,O,rfl,λj ca=>absurd ca (FH _),Al _ _⟩
   case round=>
    obtain⟨k,dJ,rfl,co,A⟩:=hrel;by_cases c':k<4
    ·obtain⟨p,n,c,l,bt,bv,b2,b3,c3⟩:=(d1.out.below A.out).at_ (dL.out.step A.out).tab k c';have b':Hid (C9 k l=false->r2 T=false):=λh=>ApF c' (by rw[bt];exact h);have kg:=U bt;have b4:=U b3;have eu:=U bv;clear bt bv b3;have eh:(k:Int)<4:=O;obtain⟨b0,d2⟩:∃b0,((k:Int)==3)=b0:=⟨_,rfl⟩;have d3:Hid (decide (k=3)=b0):=by
      unfold Hid;rw[<-d2];exact Of.2 O
     go_wp2;obtain⟨m,rfl⟩:∃m:World,m=wr:=⟨_,rfl⟩;go_loopw[52] (λi wr=>∃j:Nat,j<=n/\i=.int .i64 j/\Hid (C9 k (l.take j)=true)/\Hid (Below m.heap.size m wr)) (λi _=>n-(intOf i).toNat)
     case atStart=>exact⟨0,Au _,rfl,rfl,Al _ _⟩
     case round=>
      obtain⟨j,ca,rfl,f8,dM⟩:=hrel;by_cases d4:j<n
      ·have G:j<l.length:=by rw[eu.out];exact d4
       obtain⟨b,ff,v,rfl,bc,b5,da⟩:=(b4.out.below dM.out) j G;obtain⟨⟨f,tl⟩,ac⟩:∃s,l.getD j Ay=s:=⟨_,rfl⟩;rw[ac]at bc da;obtain⟨db,dc,rfl,_,_⟩:=da;obtain⟨dj,dk⟩:∃n,tl.length=n:=⟨_,rfl⟩;simp only at bc b5;rw[dk]at b5;have a':=U ac;obtain⟨C,f3⟩:∃C,Hid (Bz f=C):=⟨_,rfl⟩;obtain⟨L,df⟩:∃L,Hid (F9 f=L):=⟨_,rfl⟩;have o2:Hid (rk k f=(C && !(b0&&L))):=by unfold Hid;rw[rk,f3.out,df.out,d3.out]
       have eU:=U (dM.out.alloc dM.out.size (.cells #[.int .i64 f,.slice db dj dc] 73));clear ac dk;go_upto_region 21 with(fail);go_cut[94] (λcp cq=>∃B:Bool,cp=.bool B/\Hid (B=true↔(f<0\/1114111<f\/f<BT 0 (AC (l.take j))\/rk k f=true))/\Hid (Below m.heap.size m cq))
       case first=>
        by_cases q:f<0
        ·exact Avx
        ·have d_:decide (f<0)=false:=Ai q;clear q;by_cases F:1114111<f
         ·exact Avx
         ·have fH:decide (1114111<f)=false:=Ai F;clear F;cases j with
          | zero =>
           have dx:Hid (BT 0 (AC (l.take 0))=0):=rfl;cases C with
           | false =>
            exact Ayb
           | true =>
            cases b0 with
            | false =>
             exact YJ
            | true =>
             cases L with
             | false =>
              exact YJ
             | true =>
              exact Ayb
          | succ i =>
           have b8:i<l.length:=O;obtain⟨ei,ej,ek,bd,a9,_,_⟩:=(b4.out.below dM.out) i b8;injection bd with bd;injection bd with cr cs;subst cr;subst cs;have dx:Hid (BT 0 (AC (l.take (i+1)))=(l.getD i Ay).1+1):=by
            unfold Hid;rw[KF l i b8,AC,FY];exact Me _ _ _
           obtain⟨be,b9⟩:∃s,(l.getD i Ay).1=s:=⟨_,rfl⟩;rw[b9]at a9 dx;have el:(wr.alloc (.cells #[.int .i64 f,.slice db dj dc] 73)).cell? ⟨b,ff+i*2,none⟩=some (.int .i64 be):=(JR wr _ ⟨b,ff+i*2,none⟩ (AN wr _ a9)).trans a9;have d5:(0:Int)<(i:Int)+1:=O;have d6:(0:Int)<=(i:Int):=O;have d7:(i:Int)<(n:Int):=O;have d8:IntKind.i64.wrap ((i:Int)+1-1)=i:=H_;have d9:IntKind.i64.wrap (i:Int)=i:=AT _ O;clear b9;by_cases bl:f<=be
           ·go_quiet (fail);go_wp2_with fail;go_meet;exact⟨true,rfl,by unfold Hid;rw[dx.out];simp;omega,Im eU.out _⟩
           ·have lW:decide (f<=be)=false:=Ai bl;clear bl;cases C with
            | false =>
             exact Ax1
            | true =>
             cases b0 with
             | false =>
              exact YJ
             | true =>
              cases L with
              | false =>
               exact YJ
              | true =>
               exact Ax1
       case rest=>
        obtain⟨B,rfl,fT,fP⟩:=hcut;cases B
        ·have bb:Hid (C9 k (l.take (j+1))=true):=by
          unfold Hid;rw[KF l j G,Adm,a'.out];have b2:¬(f<0\/1114111<f\/f<BT 0 (AC (l.take j))\/rk k f=true):=λh=>AhQ;refine⟨f8.out,?_,?_,?_⟩
          ·exact MI
          ·exact MI
          ·cases ct:rk k f with
           | false=>rfl
           | true=>exact(b2 (.inr (.inr (.inr ct)))).elim
         exact Ayw
        ·have bs:Hid (r2 T=false):=by
          unfold Hid;apply b'.out;apply AoE (j+1);rw[<-I8,KF l j G,Adm,a'.out];rintro ⟨_,F,dm,cu⟩;have:=fT.out.1 rfl;rw[cu]at this;simp only at F dm;have d':=Qp (Aki f8.out);exact AvH
         have eT:=U (dL.out.step A.out);exact AvF
      ·obtain rfl:j=n:=by omega
       have b6:Hid (∀i,i<k+1->C9 i ((C_ T).getD i [])=true):=by
        intro i dI;by_cases ea:i<k
        ·exact co.out i ea
        ·exact AAT
       go_wp2;go_roundw
       case rel=>exact⟨k+1,O,An,b6,U (A.out.trans (dM.out.mono A.out.size))⟩
       case measure=>simp[intOf];omega
    ·obtain rfl:k=4:=by omega
     obtain⟨dn,a9,dq,ds⟩:=Ad' (T:=T) C9 co.out;have dy:Hid (r2 T=Cx T.af):=by
      unfold Hid;rw[Afi,dP.out,dn,a9,dq,ds];rfl
     have cc:=U (dL.out.step A.out);have b7:=cc.out.box;simp only[AS]at b7;obtain⟨⟨_,_,_,_,_,_⟩,⟨_,_,_,_,cb,_⟩⟩:=b7;clear dn a9 dq ds co;have dz:Hid (Aq wr cf T.af):=dF.out.below cc.out.ab;go_wp2;obtain⟨m,rfl⟩:∃m:World,m=wr:=⟨_,rfl⟩;go_loopw[100] (λi wr=>∃j:Nat,j<=ne/\i=.int .i64 j/\Hid (Cx (T.af.take j)=true)/\Hid (Below m.heap.size m wr)) (λi _=>ne-(intOf i).toNat)
     case atStart=>exact⟨0,Au _,rfl,rfl,Al _ _⟩
     case round=>
      obtain⟨j,ca,rfl,f8,dM⟩:=hrel;by_cases eb:j<ne
      ·have G:j<T.af.length:=by rw[bb.out];exact eb
       obtain⟨b,ff,rfl,bc⟩:=(dz.out.below dM.out) j G;obtain⟨f,ac⟩:∃s,T.af.getD j 0=s:=⟨_,rfl⟩;rw[ac]at bc;have a':=U ac;obtain⟨C,f3⟩:∃C,Hid (Bz f=C):=⟨_,rfl⟩;have em:=(dM.out.cell (p:=⟨w.heap.size,10,none⟩) (AN m _ cb)).trans cb;clear ac;go_upto_region 28 with(fail);go_cut[128] (λcp cq=>∃B:Bool,cp=.bool B/\Hid (B=true↔(f<0\/1114111<f\/f<BT 0 (T.af.take j)\/Bz f=true))/\Hid (Below m.heap.size m cq))
       case first=>
        by_cases q:f<0
        ·have d_:decide (f<0)=true:=At q;have b1:Hid (f<0):=q;clear q;exact AvO
        ·have d_:decide (f<0)=false:=Ai q;clear q;by_cases F:1114111<f
         ·have fH:decide (1114111<f)=true:=At F;have b1:Hid (1114111<f):=F;clear F;exact AvO
         ·have fH:decide (1114111<f)=false:=Ai F;clear F;have en:=U d_;have eo:=U fH;cases j with
          | zero =>
           have b1:Hid (C=true↔(f<0\/1114111<f\/f<BT 0 (T.af.take 0)\/Bz f=true)):=by
            unfold Hid;have:=Fc d_;have:=Fc fH;rw[f3.out,show BT 0 (T.af.take 0)=0 from rfl];exact Av_
           exact AAU
          | succ i =>
           have b8:i<T.af.length:=O;obtain⟨ep,eq,bd,a9⟩:=(dz.out.below dM.out) i b8;injection bd with bd;injection bd with cr cs;subst cr;subst cs;have dx:Hid (BT 0 (T.af.take (i+1))=T.af.getD i 0+1):=by
            unfold Hid;rw[C4 T.af i b8];exact Me _ _ _
           obtain⟨be,b9⟩:∃s,T.af.getD i 0=s:=⟨_,rfl⟩;rw[b9]at a9 dx;have d5:(0:Int)<(i:Int)+1:=O;have d6:(0:Int)<=(i:Int):=O;have d7:(i:Int)<(ne:Int):=O;have d8:IntKind.i64.wrap ((i:Int)+1-1)=i:=H_;have d9:IntKind.i64.wrap (i:Int)=i:=AT _ O;clear b9;by_cases bl:f<=be
           ·have lW:decide (f<=be)=true:=At bl;have b1:Hid (f<0\/1114111<f\/f<BT 0 (T.af.take (i+1))\/Bz f=true):=by
             unfold Hid;rw[dx.out];exact .inr (.inr (.inl O))
            clear bl;go_wp2_with fail;go_meet;exact⟨true,rfl,⟨λ_=>b1.out,λ_=>rfl⟩,dM⟩
           ·have lW:decide (f<=be)=false:=Ai bl;have b1:Hid (C=true↔(f<0\/1114111<f\/f<BT 0 (T.af.take (i+1))\/Bz f=true)):=by
             unfold Hid;have:=Fc d_;have:=Fc fH;rw[f3.out,dx.out];exact Av_
            clear bl;exact AAU
       case rest=>
        obtain⟨B,rfl,fT,fP⟩:=hcut;cases B
        ·have ec:Hid (Cx (T.af.take (j+1))=true):=by
          unfold Hid;rw[C4 T.af j G,Adn,a'.out];have b2:¬(f<0\/1114111<f\/f<BT 0 (T.af.take j)\/Bz f=true):=λh=>AhQ;refine⟨f8.out,?_,?_,?_⟩
          ·omega
          ·omega
          ·cases ct:Bz f with
           | false=>rfl
           | true=>exact(b2 (.inr (.inr (.inr ct)))).elim
         clear fT f8 dM;go_wp2;go_roundw
         case rel=>exact⟨j+1,O,An,ec,fP⟩
         case measure=>simp[intOf];omega
        ·have bs:Hid (r2 T=false):=by
          unfold Hid;rw[dy.out];apply AoG (j+1);rw[<-I8,C4 T.af j G,Adn,a'.out];rintro ⟨q,F,dm,cu⟩;have:=fT.out.1 rfl;rw[cu]at this;have d':=Qp (Aa4 q);exact AvH
         clear fT f8 dM;go_wp2;go_ret;rw[bs.out];exact⟨rfl,(cc.out.step fP.out).ab⟩
      ·obtain rfl:j=ne:=by omega
       have ed:Hid (r2 T=true):=by
        unfold Hid;have:=f8.out;rw[AO (BW bb.out)]at this;rw[dy.out];exact this
       go_wp2;go_ret;rw[ed.out];exact⟨rfl,(cc.out.step dM.out).ab⟩
end Go.Proofs.YtblcoicaeeiojaaGreatDoor
