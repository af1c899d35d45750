/- Tests of a code point: t -/
import Derived.Test.YtblcoicaeeiojaaGreatDoorSOaPmTabMem
import Derived.BigGuardPart
import Derived.Shelf.Abstract
set_option linter.all false
set_option maxHeartbeats 8000000
set_option maxRecDepth 100000
open Go.Proofs.Tryz
namespace Go.Proofs.YtblcoicaeeiojaaGreatDoor
open Go.RowKit
def Lo{a b:Bool}(h:a=true↔b=true):Ending.returned (.bool a)=.returned (.bool b):=by
 rw[Gd.2 h]
def AgM(c:Int)(w:World):Calls prog 222 #[.int .i64 c] w λe w'=>e=.returned (.bool (GZ c))/\w=w':=by
 have eq:=U (@Hg c);go_enter func222,ntmps222;exact N0
def Acp(c:Int)(w:World):Calls prog 255 #[.int .i64 c] w λe w'=>e=.returned (.bool (Kf c))/\w=w':=by
 have eq:=U (@S_ c);go_enter func255,ntmps255;exact N0
def Yl(c:Int)(w:World):Calls prog 217 #[.int .i64 c] w λe w'=>e=.returned (.bool (Cg c))/\w=w':=by
 have eq:=U (@JD c);go_enter func217,ntmps217;exact N0
def Adi(c:Int)(w:World):Calls prog 258 #[.int .i64 c] w λe w'=>e=.returned (.bool (ED c))/\w=w':=by
 have eq:=U (@Lq c);go_enter func258,ntmps258;exact N0
def Af3(c:Int)(w:World):Calls prog 80 #[.int .i64 c] w λe w'=>e=.returned (.bool (Cg c))/\w=w':=by
 have eq:=U (@JD c);go_enter func80,ntmps80;exact N0
def AfP(c:Int)(w:World):Calls prog 128 #[.int .i64 c] w λe w'=>e=.returned (.bool (ED c))/\w=w':=by
 have eq:=U (@Lq c);go_enter func128,ntmps128;exact N0
def AfR(c:Int)(w:World):Calls prog 79 #[.int .i64 c] w λe w'=>e=.returned (.bool (F9 c))/\w=w':=by
 have eq:=U (@NB c);go_enter func79,ntmps79;exact N0
def NN{c:Int}:AA c=true↔0<=c/\c<=1114111/\(c<55296\/57343<c):=by
 simp[AA];omega
def As1(c:Int)(w:World):Calls prog 44 #[.int .i64 c] w λe w'=>e=.returned (.bool (AA c))/\w=w':=by
 have eq:=U (@NN c);go_enter func44,ntmps44;exact N0
def Ar7{c:Int}:Bz c=true↔(0<=c/\c<=127)\/(55296<=c/\c<=57343)\/Cg c=true\/ED c=true:=by
 rw[GA,JD,Lq];omega
def AsY(c:Int)(w:World):Calls prog 127 #[.int .i64 c] w λe w'=>e=.returned (.bool (Bz c))/\w=w':=by
 have eq:=U (@Ar7 c);obtain⟨S,b⟩:∃S,Cg c=S:=⟨_,rfl⟩;obtain⟨c7,h⟩:∃c7,ED c=c7:=⟨_,rfl⟩;rw[b,h]at eq;have k:=U b;have m:=U h;clear b h;go_enter func127,ntmps127;go_wp2_with (first
  | (go_at_call 80;refine(Af3 _ _).mono ?_;rw[k.out];rintro e w' ⟨rfl,rfl⟩)
  | (go_at_call 128;refine(AfP _ _).mono ?_;rw[m.out];rintro e w' ⟨rfl,rfl⟩))
 all_goals
  exact AvR
def Am5{c:Int}:D9 c=true↔c=46\/Cg c=true\/ED c=true:=by simp[D9]
def Am4(c:Int)(w:World):Calls prog 210 #[.int .i64 c] w λe w'=>e=.returned (.bool (D9 c))/\w=w':=by
 have eq:=U (@Am5 c);obtain⟨S,b⟩:∃S,Cg c=S:=⟨_,rfl⟩;obtain⟨c7,h⟩:∃c7,ED c=c7:=⟨_,rfl⟩;rw[b,h]at eq;have k:=U b;have m:=U h;clear b h;go_enter func210,ntmps210;go_wp2_with (first
  | (go_at_call 217;refine(Yl _ _).mono ?_;rw[k.out];rintro e w' ⟨rfl,rfl⟩)
  | (go_at_call 258;refine(Adi _ _).mono ?_;rw[m.out];rintro e w' ⟨rfl,rfl⟩))
 all_goals
  exact AvR
def Ar9{c:Int}:NL c=true↔Bz c=true/\F_ c=false/\Kf c=false/\c≠45:=by
 simp[NL,F9,and_assoc]
def Ar8(c:Int)(w:World)(s:Bi w):Calls prog 203 #[.int .i64 c] w (Ar (.bool (NL c)) w):=by
 have A:=U s;have b:=U (@Ar9 c);obtain⟨B,h⟩:∃B,Bz c=B:=⟨_,rfl⟩;obtain⟨S,k⟩:∃S,F_ c=S:=⟨_,rfl⟩;obtain⟨m,q⟩:∃m,Kf c=m:=⟨_,rfl⟩;rw[h,k,q]at b;have C:=U h;have F:=U k;have G:=U q;clear h k q s;go_enter func203,ntmps203;go_wp2_with fail;refine(Aoc c B _ A.out C).mono ?_;rintro e w1 ⟨rfl,L⟩;have ac:=U L;clear L;go_wp2_with (first
  | (go_at_call 254;refine(AdM _ _).mono ?_;rw[F.out];rintro e w' ⟨rfl,rfl⟩)
  | (go_at_call 255;refine(Acp _ _).mono ?_;rw[G.out];rintro e w' ⟨rfl,rfl⟩))
 all_goals
  go_ret;refine⟨Lo ?_,ac.out⟩;rw[b.out];clear b C F G A ac
  first
   | (simp;done)
   | (simp;omega)
   | (cases B<;>simp_all<;>omega)
   | (cases B<;>cases S<;>simp_all<;>omega)
   | (cases B<;>cases S<;>cases m<;>simp_all<;>omega)
abbrev Iq(a b c d:Int):Value:=.agg #[.int .i64 a,.int .i64 b,.int .i64 c,.int .i64 d]
def AaB(c:Int)(w:World)(e:Ending)(w':World):Prop:=e=.returned (Iq (Fs c) (FO c) (Gt c) (F4 c))/\Below w.heap.size w w'
def Jn{c a b s t:Int}{w w':World}{e:Ending}(h:e=.returned (Iq a b s t))(k:Fs c=a)(m:FO c=b)(q:Gt c=s)(A:F4 c=t)(C:Below w.heap.size w w'):AaB c w e w':=by
 subst h k m q A;exact⟨rfl,C⟩
def Aky{c d:Int}:(c==d)=false↔¬c=d:=J
def Akz{c d:Int}:(c==d)=true↔c=d:=J
def Am0(c:Int)(w:World):Calls prog 221 #[.int .i64 c] w (AaB c w):=by
 obtain⟨L,C⟩:∃L,F_ c=L:=⟨_,rfl⟩;obtain⟨b,F⟩:∃b,GZ c=b:=⟨_,rfl⟩;obtain⟨D,G⟩:∃D,Kf c=D:=⟨_,rfl⟩;obtain⟨S,ac⟩:∃S,Cg c=S:=⟨_,rfl⟩;obtain⟨h,ad⟩:∃h,ED c=h:=⟨_,rfl⟩;have k:=U C;have m:=U F;have q:=U G;have s:=U ac;have A:=U ad;clear C F G ac ad;go_enter func221,ntmps221;go_wp2_with (first
  | (go_at_call 254;refine(AdM _ _).mono ?_;rw[k.out];rintro e w' ⟨rfl,rfl⟩)
  | (go_at_call 222;refine(AgM _ _).mono ?_;rw[m.out];rintro e w' ⟨rfl,rfl⟩)
  | (go_at_call 255;refine(Acp _ _).mono ?_;rw[q.out];rintro e w' ⟨rfl,rfl⟩)
  | (go_at_call 217;refine(Yl _ _).mono ?_;rw[s.out];rintro e w' ⟨rfl,rfl⟩)
  | (go_at_call 258;refine(Adi _ _).mono ?_;rw[A.out];rintro e w' ⟨rfl,rfl⟩))
 all_goals
  have am:L=true↔(97<=c/\c<=122):=by rw[<-k.out];exact Ty
  have a9:b=true↔(65<=c/\c<=90):=by rw[<-m.out];exact Hg
  have a':D=true↔(48<=c/\c<=57):=by rw[<-q.out];exact S_
  have ba:S=true↔(44032<=c/\c<=55203):=by rw[<-s.out];exact JD
  have bb:h=true↔((4352<=c/\c<=4370)\/(4449<=c/\c<=4469)\/(4520<=c/\c<=4546)):=by rw[<-A.out];exact Lq
  clear k m q s A
  first
   | (refine FF (v := Iq 1 0 3 1) ?_ rfl (Jn rfl ?_ ?_ ?_ ?_ ((Al _ _).alloc (Ac _) _))
      ·(simp[results,results221,go_sem];done))
   | (refine FF (v := Iq 1 0 3 3) ?_ rfl (Jn rfl ?_ ?_ ?_ ?_ ((Al _ _).alloc (Ac _) _))
      ·(simp[results,results221,go_sem];done))
   | (refine FF (v := Iq 3 4 1 1) ?_ rfl (Jn rfl ?_ ?_ ?_ ?_ ((Al _ _).alloc (Ac _) _))
      ·(simp[results,results221,go_sem];done))
   | (refine FF (v := Iq 5 5 1 1) ?_ rfl (Jn rfl ?_ ?_ ?_ ?_ ((Al _ _).alloc (Ac _) _))
      ·(simp[results,results221,go_sem];done))
   | (refine FF (v := Iq 5 6 1 1) ?_ rfl (Jn rfl ?_ ?_ ?_ ?_ ((Al _ _).alloc (Ac _) _))
      ·(simp[results,results221,go_sem];done))
   | (refine FF (v := Iq 8 11 1 0) ?_ rfl (Jn rfl ?_ ?_ ?_ ?_ ((Al _ _).alloc (Ac _) _))
      ·(simp[results,results221,go_sem];done))
   | (refine FF (v := Iq 7 11 1 0) ?_ rfl (Jn rfl ?_ ?_ ?_ ?_ ((Al _ _).alloc (Ac _) _))
      ·(simp[results,results221,go_sem];done))
   | (refine FF (v := Iq 5 8 1 0) ?_ rfl (Jn rfl ?_ ?_ ?_ ?_ ((Al _ _).alloc (Ac _) _))
      ·(simp[results,results221,go_sem];done))
   | (refine FF (v := Iq 1 0 9 1) ?_ rfl (Jn rfl ?_ ?_ ?_ ?_ ((Al _ _).alloc (Ac _) _))
      ·(simp[results,results221,go_sem];done))
   | (refine FF (v := Iq 1 0 9 0) ?_ rfl (Jn rfl ?_ ?_ ?_ ?_ ((Al _ _).alloc (Ac _) _))
      ·(simp[results,results221,go_sem];done))
   | (refine FF (v := Iq 0 0 0 0) ?_ rfl (Jn rfl ?_ ?_ ?_ ?_ ((Al _ _).alloc (Ac _) _))
      ·(simp[results,results221,go_sem];done))
  all_goals
   simp_all only[Akz,Aky,Bool.true_eq_false,U5,true_iff,false_iff,reduceCtorEq]
   simp only[Fs,FO,Gt,F4,F9,Ic,A4,Ty,Hg,S_,JD,Lq]
   repeat' (first|omega|(exfalso;simp_all;done)|split)
def Lg(g:Nat)(b:Array Value)(p:Sp->Bool)(w:World):Prop:=
 ∀(s:Sp) (W:World),Below w.heap.size w W->Calls prog g (#[NP s]++b) W (Ar (.bool (p s)) W)
def G3(g:Nat)(b:Array Value)(p:Int->Bool)(w:World):Prop:=
 ∀(c:Int) (W:World),Below w.heap.size w W->Calls prog g (#[.int .i64 c]++b) W (Ar (.bool (p c)) W)
theorem Lg.below{g:Nat}{b:Array Value}{p:Sp->Bool}{w w':World}(h:Lg g b p w)(c:Below w.heap.size w w'):Lg g b p w':=
 λs W e=>h s W (c.trans (e.mono c.size))
theorem G3.below{g:Nat}{b:Array Value}{p:Int->Bool}{w w':World}(h:G3 g b p w)(c:Below w.heap.size w w'):G3 g b p w':=
 λs W e=>h s W (c.trans (e.mono c.size))
theorem Lg.at_{g:Nat}{b:Array Value}{p:Sp->Bool}{w:World}(h:Lg g b p w)(f t v:Int)(B:Bool)(c:Hid (p (f,t,v)=B))(W:World)(e:Below w.heap.size w W):Calls prog g (#[.agg #[.int .i64 f,.int .i64 t,.int .i64 v]]++b) W (Ar (.bool B) W):=by
 rw[<-c.out];exact h (f,t,v) W e
theorem G3.at_{g:Nat}{b:Array Value}{p:Int->Bool}{w:World}(h:G3 g b p w)(c:Int)(B:Bool)(e:Hid (p c=B))(W:World)(k:Below w.heap.size w W):Calls prog g (#[.int .i64 c]++b) W (Ar (.bool B) W):=by
 rw[<-e.out];exact h c W k
def AaF(b:Bool)(w:World)(e:Ending)(w':World):Prop:=
 ∃i:Int,e=.returned (.int .i64 i)/\(b=true->0<=i)/\(b=false->i<0)/\Below w.heap.size w w'
def AnS(p:Option Addr)(n a':Nat)(l:List Sp)(g:Nat)(A:Array Value)(q:Sp->Bool)(w:World)(C:l.length=n)(bs:n<=17592186043904)(F:Cs w p l)(G:Lg g A q w)(bt:∀args w,(callFunc g args).run prog w=.ok (.enter g args) w):Calls prog 253 #[.slice p n a',.func (.func g) #[] A] w (AaF (l.any q) w):=by
 have ba:=U F;have cF:=U C;have L:=U G;clear F C G;go_enter func253,ntmps253;go_wp2;go_loopw[8] (λi wr=>∃k:Nat,k<=n/\i=.int .i64 k/\Hid ((l.take k).any q=false)/\Hid (Below w.heap.size w wr)) (λi _=>n-(intOf i).toNat)
 case atStart=>exact⟨0,Au _,rfl,DH,Al _ _⟩
 case round=>
  obtain⟨k,bv,rfl,kB,ad⟩:=hrel;by_cases bc:k<n
  ·have ac:k<l.length:=by rw[cF.out];exact bc
   obtain⟨b,ff,rfl,bd,be,bl⟩:=(ba.out.below ad.out) k ac;have h:=SG q l k A_ ac;rw[kB.out,FE]at h;obtain⟨⟨f,t,v⟩,am⟩:∃s,l.getD k A_=s:=⟨_,rfl⟩;rw[am]at bd be bl h;have a9:=U h;clear am h;obtain⟨B,m⟩:∃B,Hid (q (f,t,v)=B):=⟨_,rfl⟩;cases B with
   | true =>
    have fR:Hid (l.any q=true):=SF q l (k+1) (by rw[a9.out,m.out]);go_wp2_with (go_at_fn g;refine(L.out.at_ f t v true m _ ad.out).mono ?_;rintro e w2 ⟨rfl,c⟩;have cx:=U (ad.out.trans (c.mono ad.out.size));clear c);go_ret;exact⟨k,rfl,λ_=>O,Zi,cx.out⟩
   | false =>
    have bb:Hid ((l.take (k+1)).any q=false):=by unfold Hid;rw[a9.out,m.out]
    go_wp2_with (go_at_fn g;refine(L.out.at_ f t v false m _ ad.out).mono ?_;rintro e w2 ⟨rfl,c⟩;have cx:=U (ad.out.trans (c.mono ad.out.size));clear c);exact AyY
  ·exact Ayt
def AnR(p:Option Addr)(n a':Nat)(l:List Int)(g:Nat)(A:Array Value)(q:Int->Bool)(w:World)(C:l.length=n)(be:n<=17592186043904)(F:Aq w p l)(G:G3 g A q w)(bl:∀args w,(callFunc g args).run prog w=.ok (.enter g args) w):Calls prog 234 #[.slice p n a',.func (.func g) #[] A] w (AaF (l.any q) w):=by
 have ba:=U F;have cF:=U C;have L:=U G;clear F C G;go_enter func234,ntmps234;go_wp2;go_loopw[8] (λi wr=>∃k:Nat,k<=n/\i=.int .i64 k/\Hid ((l.take k).any q=false)/\Hid (Below w.heap.size w wr)) (λi _=>n-(intOf i).toNat)
 case atStart=>exact⟨0,Au _,rfl,DH,Al _ _⟩
 case round=>
  obtain⟨k,bs,rfl,kB,ad⟩:=hrel;by_cases bc:k<n
  ·have ac:k<l.length:=by rw[cF.out];exact bc
   obtain⟨b,ff,rfl,bd⟩:=(ba.out.below ad.out) k ac;have h:=SG q l k 0 ac;rw[kB.out,FE]at h;obtain⟨f,am⟩:∃s,l.getD k 0=s:=⟨_,rfl⟩;rw[am]at bd h;have a9:=U h;clear am h;obtain⟨B,m⟩:∃B,Hid (q f=B):=⟨_,rfl⟩;cases B with
   | true =>
    have fR:Hid (l.any q=true):=SF q l (k+1) (by rw[a9.out,m.out]);go_wp2_with (go_at_fn g;refine(L.out.at_ f true m _ ad.out).mono ?_;rintro e w2 ⟨rfl,c⟩;have cx:=U (ad.out.trans (c.mono ad.out.size));clear c);go_ret;exact⟨k,rfl,λ_=>O,Zi,cx.out⟩
   | false =>
    have bb:Hid ((l.take (k+1)).any q=false):=by unfold Hid;rw[a9.out,m.out]
    go_wp2_with (go_at_fn g;refine(L.out.at_ f false m _ ad.out).mono ?_;rintro e w2 ⟨rfl,c⟩;have cx:=U (ad.out.trans (c.mono ad.out.size));clear c);exact AyY
  ·exact Ayt
def Ab1(c:Value)(l:List Sp)(g:Nat)(b:Array Value)(q:Sp->Bool)(B:Bool)(w:World)(s:Cw w c l)(h:Lg g b q w)(k:∀args w,(callFunc g args).run prog w=.ok (.enter g args) w)(A:Hid (l.any q=B)):Calls prog 197 #[c,.func (.func g) #[] b] w (Ar (.bool B) w):=by
 obtain⟨p,C,rfl,m,F⟩:=s;have G:=U m;have L:=U h;have ac:=U k;clear m h k;go_enter func197,ntmps197;go_wp2_with fail;refine(AnS p l.length C l g b q _ rfl F G.out L.out ac.out).mono ?_;rw[A.out];exact Ayz
def Qh(c:Value)(l:List Int)(g:Nat)(b:Array Value)(q:Int->Bool)(B:Bool)(w:World)(s:Bp w c l)(h:G3 g b q w)(k:∀args w,(callFunc g args).run prog w=.ok (.enter g args) w)(A:Hid (l.any q=B)):Calls prog 164 #[c,.func (.func g) #[] b] w (Ar (.bool B) w):=by
 obtain⟨p,C,rfl,m,F⟩:=s;have G:=U m;have L:=U h;have ac:=U k;clear m h k;go_enter func164,ntmps164;go_wp2_with fail;refine(AnR p l.length C l g b q _ rfl F G.out L.out ac.out).mono ?_;rw[A.out];exact Ayz
def Amm(k8:Int)(l:List Int)(j:Nat)(h:j<l.length):BT k8 (l.take (j+1))=l.getD j 0+1:=by
 rw[C4 l j h,Me]
def Akk(p:Option Addr)(n bx:Nat)(l:List Int)(k8 dI:Int)(w:World)(ad:l.length=n)(b5:n<=17592186043904)(am:Aq w p l):Calls prog 207 #[.slice p n bx,.int .i64 k8,.int .i64 dI] w λe w'=>e=.returned (.bool (AL k8 dI l))/\w=w':=by
 have a9:=U am;have cF:=U ad;clear am ad;go_enter func207,ntmps207;go_wp2;go_loop[11] (λi=>∃k:Nat,k<=n/\i=.int .i64 k/\Hid (AL k8 dI (l.take k)=true)) (λi=>n-(intOf i).toNat)
 case atStart=>exact⟨0,Au _,rfl,rfl⟩
 case round=>
  obtain⟨k,b6,rfl,q⟩:=hrel;by_cases b0:k<n
  ·have a':k<l.length:=by rw[cF.out];exact b0
   obtain⟨b,ff,rfl,ba⟩:=a9.out k a';obtain⟨v,A⟩:∃v,l.getD k 0=v:=⟨_,rfl⟩;rw[A]at ba;have C:AL k8 dI (l.take (k+1))=true↔BT k8 (l.take k)<=v/\v<=dI:=by
    rw[C4 l k a',L7,A];exact⟨λh=>h.2,λh=>⟨q.out,h⟩⟩
   have bb:¬(BT k8 (l.take k)<=v/\v<=dI)->AL k8 dI l=false:=λh=>Aa5 (k+1) (by rw[<-I8,C];exact h);have bc:=Qp q.out;have bd:=U C;have F:=U bb;have b1:=U bc;clear A C bb bc;by_cases c:v<k8
   ·have bs:Hid (AL k8 dI l=false):=F.out (by have:=b1.out;omega);exact ZM
   ·have b7:decide (v<k8)=false:=Ai c;by_cases m:dI<v
    ·have bs:Hid (AL k8 dI l=false):=F.out O;clear c;exact ZM
    ·have b8:decide (dI<v)=false:=Ai m;cases k with
     | zero =>
      have G:Hid (AL k8 dI (l.take (0+1))=true):=bd.out.2 ⟨by simp[BT];omega,O⟩;clear c m;simp only[E_]at ba;go_wp2;go_round
      case rel=>exact⟨0+1,O,An,G⟩
      case measure=>simp[intOf];omega
     | succ j =>
      have be:j<l.length:=O;obtain⟨b9,b',L,b2⟩:=a9.out j be;injection L with L;injection L with b3 b4;subst b3;subst b4;have ac:=U (Amm k8 l j be);obtain⟨bl,bt⟩:∃s,l.getD j 0=s:=⟨_,rfl⟩;rw[bt]at b2 ac;have ca:(0:Int)<(j:Int)+1:=O;have cb:(0:Int)<=(j:Int):=O;have cc:(j:Int)<(n:Int):=O;have cd:IntKind.i64.wrap ((j:Int)+1-1)=j:=H_;have ce:IntKind.i64.wrap (j:Int)=j:=AT _ O;clear bt;by_cases bv:v<=bl
      ·have bs:Hid (AL k8 dI l=false):=F.out (by rw[ac.out];omega);clear c m;exact ZM
      ·have cf:decide (v<=bl)=false:=Ai bv;have G:Hid (AL k8 dI (l.take (j+1+1))=true):=bd.out.2 ⟨by rw[ac.out];omega,O⟩;clear c m bv;go_wp2;go_round
       case rel=>exact⟨j+1+1,O,An,G⟩
       case measure=>simp[intOf];omega
  ·obtain rfl:k=n:=by omega
   have bs:Hid (AL k8 dI l=true):=by
    have:=q.out;exact Y9
   exact ZM
def VH(b:Value)(l:List Int)(k8 dI:Int)(B:Bool)(w:World)(c:Bp w b l)(h:Hid (AL k8 dI l=B)):Calls prog 207 #[b,.int .i64 k8,.int .i64 dI] w λe w'=>e=.returned (.bool B)/\w=w':=by
 obtain⟨p,k,rfl,m,q⟩:=c;rw[<-h.out];exact Akk p l.length k l k8 dI w rfl q m
def TI{l:List Int}{q:Int->Bool}{B:Bool}(h:l.any q=B):(l.all λc=>!q c) = !B:=by
 rw[<-h,Gd];simp
def Akg(b:Value)(l:List Int)(g:Nat)(q:Int->Bool)(w:World)(s:Bp w b l)(A:G3 g #[] q w)(C:∀args w,(callFunc g args).run prog w=.ok (.enter g args) w):Calls prog 200 #[b,.func (.func g) #[] #[]] w (Ar (.bool (AL 0 1114111 l&&l.all λc=>!q c)) w):=by
 have k:=U s;have G:=U A;have L:=U C;clear s A C;cases h:AL 0 1114111 l with
 | false =>
  have m:=U h;clear h;go_enter func200,ntmps200;go_wp2_with fail;refine(VH b l 0 1114111 false _ k.out m).mono ?_;rintro e w1 ⟨rfl,rfl⟩;exact Hx
 | true =>
  have m:=U h;clear h;obtain⟨B,F⟩:∃B,Hid (l.any q=B):=⟨_,rfl⟩;have bb:=U (TI F.out);rw[BG];go_enter func200,ntmps200;go_wp2_with fail;refine(VH b l 0 1114111 true _ k.out m).mono ?_;rintro e w1 ⟨rfl,rfl⟩;go_wp2_with fail;refine(Qh b l g #[] q B _ k.out G.out L.out F).mono ?_;exact AyZ
def P9(b: Value)(l: List Int)(g: Nat)(q: Int->Bool)(B: Bool)(w: World)(e: Bp w b l)(h: G3 g #[] q w)(k: ∀ args w, (callFunc g args).run prog w=.ok (.enter g args) w)(m: Hid ((AL 0 1114111 l && l.all λc=>!q c) = B)) :
  Calls prog 200 #[b,.func (.func g) #[] #[]] w (Ar (.bool B) w):=m.out▸Akg b l g q w e h k
def AjI(l:List Int)(w:World)(e:Ending)(w':World):Prop:=∃v,e=.returned v/\Ak w' w.heap.size v l/\Below w.heap.size w w'
theorem Ak.aZ{w:World}{B:Nat}{v:Value}{l:List Int}(h:Ak w B v l)(b:l.length<=17592186043904):Bp w v l:=by
 obtain⟨p,c,rfl,dI⟩:=h.ap;exact⟨p,c,rfl,dI,b⟩
def Hs(c:Nat):Obj:=.cells (madeCells (Value.cells (.int .i64 0)) (c*1)) 3
def OZ(c:Nat)(m:c<=4194304)(w:World):(Instr.makeSlice 22 (.int .i64 0) (.int .i64 (c:Int))).run prog w=.ok (.slice (some ⟨w.heap.size,0,none⟩) 0 c) (w.alloc (Hs c)):=by
 obtain⟨b,dI,e,k,dE⟩:=Cp info3;have h:=Af5 (P:=prog) 22 3 b _ underlying22 dI e .i64 .i64 0 c (Au _) I3 O w;rw[k]at h;exact h
theorem Ak.made(w:World)(B c:Nat)(b:B<=w.heap.size)(e:c<=4194304):Ak (w.alloc (Hs c)) B (.slice (some ⟨w.heap.size,0,none⟩) 0 c) []:=by
 unfold Ak Hs;exact World.ownsRow_made w _ c b BQ (R5 _ _)
def Tk(F:Value)(l:List Mp)(w:World)(bc:DK w F l)(bd:l.length<=256):Calls prog 201 #[F] w (AjI (AC l) w):=by
 obtain⟨p,b6,rfl,G,be⟩:=bc;obtain⟨n,e⟩:∃n,l.length=n:=⟨_,rfl⟩;rw[e]at bd be|-;have b7:=OZ n O;have bl:=U G;have L:=U e;clear G e;go_enter func201,ntmps201;go_wp2;go_loopw[3,11] (λv i wr=>∃k:Nat,k<=n/\i=.int .i64 k/\Hid (Ak wr w.heap.size v (AC (l.take k)))/\Hid (Below w.heap.size w wr)) (λ_ i _=>n-(intOf i).toNat)
 case atStart=>exact⟨0,Au _,rfl,Ak.made w _ n (Ac _) O,(Al _ _).alloc (Ac _) _⟩
 case round=>
  obtain⟨k,b8,rfl,h,c⟩:=hrel;by_cases bs:k<n
  ·have ac:k<l.length:=by rw[L.out];exact bs
   obtain⟨b,ff,v,rfl,bt,bv,q,s,rfl,_,_⟩:=(bl.out.below c.out) k ac;obtain⟨m,ad⟩:∃m,(l.getD k Ay).2.length=m:=⟨_,rfl⟩;rw[ad]at bv;clear ad;have A:AC (l.take (k+1))=AC (l.take k)++[(l.getD k Ay).1]:=by rw[KF l k ac];simp[AC]
   obtain⟨f,am⟩:∃f,(l.getD k Ay).1=f:=⟨_,rfl⟩;rw[am]at bt A;have bx:=U A;have b0:Hid ((AC (l.take k)).length<=256):=by unfold Hid;rw[Wi];exact Af (List.length_take_le _ _) O
   clear A am;have a9:=Ak.alloc h.out (.cells #[.int .i64 f,.slice q m s] 73);have C:=c.out.alloc c.out.size (.cells #[.int .i64 f,.slice q m s] 73);have b1:w.heap.size<=(wr.alloc (.cells #[.int .i64 f,.slice q m s] 73)).heap.size:=C.size;have a':=U a9;have b2:=U C;clear a9 C;go_wp2_with (at_builtin;(refine Pg (.tmp 15) (.tmp 18) rfl rfl w.heap.size u3 (AC (l.take k)) rfl a'.out f 1 _ rfl J (by have:=b0.out;omega) b1 ?_);intro b9 w1 ba bb);have b3:=U ba;have b4:=U (L9 b2.out a'.out (Ac _) bb);clear ba bb;go_wp2;go_roundw
   case rel=>exact⟨k+1,O,An,by rw[bx.out];exact b3,b4⟩
   case measure=>simp[intOf];omega
  ·obtain rfl:k=n:=by omega
   have b5:Hid (l.take k=l):=by unfold Hid;rw[AO (BW L.out)]
   go_wp2;go_ret;exact⟨_,rfl,by rw[b5.out]at h;exact h.out,c.out⟩
theorem Cw.shape{w:World}{v:Value}{l:List Sp}(h:Cw w v l):∃p c,v=.slice p l.length c:=AhU
theorem DK.shape{w:World}{v:Value}{l:List Mp}(h:DK w v l):∃p c,v=.slice p l.length c:=AhU
theorem Bp.shape{w:World}{v:Value}{l:List Int}(h:Bp w v l):∃p c,v=.slice p l.length c:=AhU
def Ag(v:Value):Prop:=∃p n c,v=.slice p n c
theorem Cw.ae{w:World}{v:Value}{l:List Sp}(h:Cw w v l):Ag v:=Aht
theorem DK.ae{w:World}{v:Value}{l:List Mp}(h:DK w v l):Ag v:=Aht
theorem Bp.ae{w:World}{v:Value}{l:List Int}(h:Bp w v l):Ag v:=Aht
abbrev JA(x:TV):Value:=.agg #[x.a0,x.a1,x.a2,x.a3,x.a4,x.a5,x.a6]
abbrev Nj(x:TV):Value:=.agg #[x.a7,x.a8,x.a9,x.ax]
def Agi(x:TV)(T:Y)(w:World)(b:Ah w x T):Calls prog 194 #[x.agg] w (Ar (JA x) w):=by
 obtain⟨a0,a1,a2,a3,a4,a5,be,bl,bs,bt,bv,bx⟩:=x;obtain⟨c,e,h,rfl⟩:=b.cat.ae;obtain⟨k,m,q,rfl⟩:=b.ai.ae;obtain⟨s,A,C,rfl⟩:=b.al.ae;obtain⟨F,G,L,rfl⟩:=b.ak.ae;obtain⟨ac,ad,am,rfl⟩:=b.aj.ae;obtain⟨a9,a',ba,rfl⟩:=b.ag.ae;obtain⟨bb,bc,bd,rfl⟩:=b.an.ae;clear b;simp only[TV.agg,JA];go_enter func194,ntmps194;go_wp2;exact FF (v:=.agg #[.slice c e h,.slice k m q,.slice s A C,.slice F G L,.slice ac ad am,.slice a9 a' ba,.slice bb bc bd]) (by simp[results,results194,go_sem]) rfl ⟨rfl,((Al _ _).alloc (Ac _) _).alloc J _⟩
def Apt(x:TV)(T:Y)(w:World)(b:Ah w x T):Calls prog 195 #[x.agg] w (Ar (Nj x) w):=by
 obtain⟨a0,a1,a2,a3,a4,a5,ac,ad,am,a9,a',ba⟩:=x;obtain⟨c,e,h,rfl⟩:=b.ext.ae;obtain⟨k,m,q,rfl⟩:=b.map.ae;obtain⟨s,A,C,rfl⟩:=b.dec.ae;obtain⟨F,G,L,rfl⟩:=b.ah.ae;clear b;simp only[TV.agg,Nj];go_enter func195,ntmps195;go_wp2;exact FF (v:=.agg #[.slice c e h,.slice k m q,.slice s A C,.slice F G L]) (by simp[results,results195,go_sem]) rfl ⟨rfl,((Al _ _).alloc (Ac _) _).alloc J _⟩
def Yb(x:TV)(k:Nat):Value:=[x.a0,x.a1,x.a2,x.a3,x.a4,x.a5,x.a6].getD k x.a0
def Xc(x:TV)(k:Nat):Value:=[x.a7,x.a8,x.a9,x.ax].getD k x.a7
def AtC(x:TV)(k:Nat)(b:k<7)(w:World):(Instr.index 168 (.agg #[x.a0,x.a1,x.a2,x.a3,x.a4,x.a5,x.a6]) (.int .i64 k)).run prog w=.ok (Yb x k) w:=by
 have h:k=0\/k=1\/k=2\/k=3\/k=4\/k=5\/k=6:=O;rcases h with rfl|rfl|rfl|rfl|rfl|rfl|rfl
 ·exact(show (Instr.index 168 (JA x) (.int .i64 0)).run prog w=.ok x.a0 w by kernel_rfl)
 ·exact(show (Instr.index 168 (JA x) (.int .i64 1)).run prog w=.ok x.a1 w by kernel_rfl)
 ·exact(show (Instr.index 168 (JA x) (.int .i64 2)).run prog w=.ok x.a2 w by kernel_rfl)
 ·exact(show (Instr.index 168 (JA x) (.int .i64 3)).run prog w=.ok x.a3 w by kernel_rfl)
 ·exact(show (Instr.index 168 (JA x) (.int .i64 4)).run prog w=.ok x.a4 w by kernel_rfl)
 ·exact(show (Instr.index 168 (JA x) (.int .i64 5)).run prog w=.ok x.a5 w by kernel_rfl)
 ·exact(show (Instr.index 168 (JA x) (.int .i64 6)).run prog w=.ok x.a6 w by kernel_rfl)
def Am8(x:TV)(k:Nat)(b:k<4)(w:World):(Instr.index 170 (.agg #[x.a7,x.a8,x.a9,x.ax]) (.int .i64 k)).run prog w=.ok (Xc x k) w:=by
 have h:k=0\/k=1\/k=2\/k=3:=O;rcases h with rfl|rfl|rfl|rfl
 ·exact(show (Instr.index 170 (Nj x) (.int .i64 0)).run prog w=.ok x.a7 w by kernel_rfl)
 ·exact(show (Instr.index 170 (Nj x) (.int .i64 1)).run prog w=.ok x.a8 w by kernel_rfl)
 ·exact(show (Instr.index 170 (Nj x) (.int .i64 2)).run prog w=.ok x.a9 w by kernel_rfl)
 ·exact(show (Instr.index 170 (Nj x) (.int .i64 3)).run prog w=.ok x.ax w by kernel_rfl)
theorem Ah.sp{w:World}{x:TV}{T:Y}(h:Ah w x T)(k:Nat)(c:k<7):Cw w (Yb x k) ((BF T).getD k []):=by
 have b:k=0\/k=1\/k=2\/k=3\/k=4\/k=5\/k=6:=O;rcases b with rfl|rfl|rfl|rfl|rfl|rfl|rfl
 ·exact h.cat
 ·exact h.ai
 ·exact h.al
 ·exact h.ak
 ·exact h.aj
 ·exact h.ag
 ·exact h.an
theorem Ah.mp{w:World}{x:TV}{T:Y}(h:Ah w x T)(k:Nat)(c:k<4):DK w (Xc x k) ((C_ T).getD k []):=by
 have b:k=0\/k=1\/k=2\/k=3:=O;rcases b with rfl|rfl|rfl|rfl
 ·exact h.ext
 ·exact h.map
 ·exact h.dec
 ·exact h.ah
def Ul{T:Y}{k:Nat}(q:List Sp->Bool)(b:k<7)(h:((BF T).take k).all q=true):((BF T).take (k+1)).all q=q ((BF T).getD k []):=by
 rw[Fj q (BF T) k [] (by simpa[BF] using b),h,BG]
def Aea{T:Y}{k:Nat}(q:List Mp->Bool)(b:k<4)(h:((C_ T).take k).all q=true):((C_ T).take (k+1)).all q=q ((C_ T).getD k []):=by
 rw[Fj q (C_ T) k [] (by simpa[C_] using b),h,BG]
def Af'{w0:World}{x:TV}{T:Y}(h:Ah w0 x T)(k:Nat)(b:k<7):∃p n c l,(BF T).getD k []=l/\l.length=n/\n<=17592186043904/\Cs w0 p l/\∀w,(Instr.index 168 (.agg #[x.a0,x.a1,x.a2,x.a3,x.a4,x.a5,x.a6]) (.int .i64 k)).run prog w=.ok (.slice p n c) w:=by
 obtain⟨p,c,e,m,q⟩:=h.sp k b;exact⟨p,_,c,_,rfl,rfl,q,m,λw=>by rw[AtC x k b w,e]⟩
def Am7{w0:World}{x:TV}{T:Y}(h:Ah w0 x T)(k:Nat)(b:k<4):∃p n c l,(C_ T).getD k []=l/\l.length=n/\n<=17592186043904/\J6 w0 p l/\∀w,(Instr.index 170 (.agg #[x.a7,x.a8,x.a9,x.ax]) (.int .i64 k)).run prog w=.ok (.slice p n c) w:=by
 obtain⟨p,c,e,m,q⟩:=h.mp k b;exact⟨p,_,c,_,rfl,rfl,q,m,λw=>by rw[Am8 x k b w,e]⟩
def Agj(T:Y):(BF T).length=7:=rfl
def ApH(T:Y):(C_ T).length=4:=rfl
def AsM(x:TV)(T:Y)(w:World)(G:Ah w x T):Calls prog 140 #[x.agg] w (Ar (.bool (r1 T)) w):=by
 have A:=U G;obtain⟨cb,ce,L,_,bd⟩:=G.af;obtain⟨ne,ac⟩:∃n,T.af.length=n:=⟨_,rfl⟩;rw[ac]at L bd;have be:=U L;have bb:=U ac;clear G L ac;simp only[TV.agg];go_enter func140,ntmps140;go_wp2_with fail;have C:=A.out.alloc (.cells (AG x) 26);have ba:=AS.new w x 26;have ad:Below w.heap.size w (w.alloc (.cells (AG x) 26)):=(Al _ _).alloc (Ac _) _;refine(Agi x T _ C).mono ?_;rintro e w1 ⟨rfl,am⟩;have F:=U (ad.trans (am.mono ad.size));have bc:=U (ba.below am);clear C ba ad am;simp only[JA];go_wp2;go_loop[4,9] (λv i=>∃k:Nat,k<=7/\i=.int .i64 k/\Hid (((BF T).take k).all GS=true)) (λ_ i=>7-(intOf i).toNat)
 case atStart=>exact⟨0,O,rfl,rfl⟩
 case round=>
  obtain⟨k,bl,rfl,cI⟩:=hrel;by_cases h:k<7
  ·obtain⟨p,n,c,l,m,q,bt,_,bv⟩:=Af' A.out k h;have b:=Ul GS h cI.out;rw[m,GS,q]at b;have s:=U b;clear m q b;by_cases bx:256<n
   ·have bs:Hid (r1 T=false):=by
     unfold Hid r1;rw[D4 GS (BF T) (k+1) (by rw[s.out];simp;omega)];rfl
    go_wp2;go_ret;rw[bs.out];exact⟨rfl,F.out⟩
   ·have d8:Hid (((BF T).take (k+1)).all GS=true):=by unfold Hid;rw[s.out];simp;omega
    exact ZG
  ·obtain rfl:k=7:=by omega
   have kM:Hid ((BF T).all GS=true):=YO;obtain⟨⟨b0,b1,b2,b3,b4,b5⟩,⟨b6,b7,b8,b9,a9,b'⟩⟩:=bc.out;have C:=U (A.out.below F.out);go_wp2_with fail;refine(Apt x T _ C.out).mono ?_;rintro e w2 ⟨rfl,a'⟩;have cx:=U (F.out.trans (a'.mono F.out.size));have ca:=U (bc.out.below a');clear a' b0 b1 b2 b3 b4 b5 b6 b7 b8 b9 a9 b';simp only[Nj];go_wp2;go_loop[6,18] (λv i=>∃k:Nat,k<=4/\i=.int .i64 k/\Hid (((C_ T).take k).all Gs=true)) (λ_ i=>4-(intOf i).toNat)
   case atStart=>exact⟨0,O,rfl,rfl⟩
   case round=>
    obtain⟨k,bl,rfl,cI⟩:=hrel;by_cases h:k<4
    ·obtain⟨p,n,c,l,m,q,bt,_,bv⟩:=Am7 A.out k h;have b:=Aea Gs h cI.out;rw[m,Gs,q]at b;have s:=U b;clear m q b;by_cases bx:256<n
     ·have bs:Hid (r1 T=false):=by
       unfold Hid r1;rw[D4 Gs (C_ T) (k+1) (by rw[s.out];simp;omega)];exact J
      go_wp2;exact Axb
     ·have d8:Hid (((C_ T).take (k+1)).all Gs=true):=by unfold Hid;rw[s.out];simp;omega
      exact ZG
    ·obtain rfl:k=4:=by omega
     have lS:Hid ((C_ T).all Gs=true):=AxD;have dm:Hid (r1 T=decide (ne<=256)):=Axc;obtain⟨_,⟨_,_,_,_,a9,_⟩⟩:=ca.out;rw[be.out]at a9;go_wp2;go_ret;exact⟨Lo AxC,cx.out⟩
structure Am (w0:World) (x:TV) (T:Y) (w:World):Prop where
 tab:Ah w x T
 box:AS w w0.heap.size x
 ab:Below w0.heap.size w0 w
theorem Am.new{w:World}{x:TV}{T:Y}(h:Ah w x T):Am w x T (w.alloc (.cells (AG x) 26)):=
 ⟨h.alloc _,AS.new w x _,(Al _ _).alloc (Ac _) _⟩
theorem Am.step{w0 w w':World}{x:TV}{T:Y}(h:Am w0 x T w)(b:Below w.heap.size w w'):Am w0 x T w':=
 ⟨h.tab.below b,h.box.below b,h.ab.trans (b.mono h.ab.size)⟩
def Ur(w:World)(b:Bi w):G3 202 #[] Bz w:=λc W e=>Ade c W (b.below e)
def Aus(w:World)(b:Bi w):G3 203 #[] NL w:=λc W e=>Ar8 c W (b.below e)
def Tg:∀args w,(callFunc 202 args).run prog w=.ok (.enter 202 args) w:=Proofs.enters_of func202 Ax rfl
def Ams:∀args w,(callFunc 203 args).run prog w=.ok (.enter 203 args) w:=Proofs.enters_of func203 Ax rfl
def Amr:∀args w,(callFunc 198 args).run prog w=.ok (.enter 198 args) w:=Proofs.enters_of func198 Ax rfl
def Aqr(s:Sp)(w:World)(b:Bi w):Calls prog 198 #[NP s] w (Ar (.bool (Eo s.1 s.2.1)) w):=by
 obtain⟨f,t,v⟩:=s;have k:=U (b.below ((Al _ _).alloc (Ac _) (.cells #[.int .i64 f,.int .i64 t,.int .i64 v] 66)));obtain⟨B,c⟩:∃B,Hid (Eo f t=B):=⟨_,rfl⟩;clear b;simp only[NP];go_enter func198,ntmps198;go_wp2_with fail;refine(Ab0 f t B _ k.out c).mono ?_;rintro e w1 ⟨rfl,h⟩;have m:=U (((Al w.heap.size w).alloc (Ac _) _).trans (h.mono J));clear h;go_wp2;go_ret;exact⟨by rw[c.out];rfl,m.out⟩
def Aur(w:World)(b:Bi w):Lg 198 #[] (λs=>Eo s.1 s.2.1) w:=λs W c=>Aqr s W (b.below c)
def AcI{T:Y}(h:r1 T=true)(k:Nat)(c:k<7):((BF T).getD k []).length<=256:=by
 simp only[r1,AJ,AR]at h;have b:k<(BF T).length:=by rw[Agj];exact c
 have:=h.1 _ (Ob b);rw[GS,A4]at this;rw[Cz,CI b];exact this
def Qr{T:Y}(h:r1 T=true):T.ext.length<=256/\T.map.length<=256/\T.dec.length<=256/\T.ah.length<=256/\T.af.length<=256:=by
 simp only[r1,C_,AJ,DQ,Gf,Gs,A4]at h;exact⟨h.2.1.1,h.2.1.2.1,h.2.1.2.2.1,h.2.1.2.2.2.1,h.2.2⟩
def Agh{l:List Sp}(h:l.length<=256):FL l 0 1114111=AH 0 l:=by
 unfold FL GC;rw[At h,BG];cases b:AH 0 l with
 | false=>rfl
 | true =>
  rw[BG,AR];intro s c;have:=Lh b c;exact Ae
def Aj4{l:List Sp}{q:Sp->Bool}{B:Bool}(h:l.any q=B):(l.all λc=>!q c) = !B:=by
 rw[<-h,Gd];simp
def AnX(x:TV)(T:Y)(w:World)(a9:Ah w x T)(ca:Bi w)(cb:r1 T=true):Calls prog 141 #[x.agg] w (Ar (.bool (r2 T)) w):=by
 have dS:=U a9;have cc:=U ca;have cd:=U cb;have a':=U (Am.new a9);clear a9 ca cb;simp only[TV.agg];go_enter func141,ntmps141;go_wp2_with fail;refine(Agi x T _ a'.out.tab).mono ?_;rintro e w1 ⟨rfl,ce⟩;have ba:=U (a'.out.step ce);have F:=U (cc.out.below ba.out.ab);clear ce;simp only[JA];go_wp2;go_loopw[4,7] (λv i wr=>∃k:Nat,k<=7/\i=.int .i64 k/\Hid (((BF T).take k).all BA=true)/\Hid (Am w x T wr)) (λ_ i _=>7-(intOf i).toNat)
 case atStart=>exact⟨0,O,rfl,rfl,ba⟩
 case round=>
  clear a' ba F;obtain⟨k,dT,rfl,cI,m⟩:=hrel;have F:=U (cc.out.below m.out.ab);by_cases bb:k<7
  ·obtain⟨p,n,c,l,cf,cg,cO,ci,dU⟩:=Af' m.out.tab k bb;have bc:=Ul BA bb cI.out;have bd:=AcI cd.out k bb;rw[cf]at bc bd;have q:=Agh bd;have cj:=U bc;have be:=U ci;have G:=U cg;clear cf bc cg ci bd;have cl:Hid (BA l=false->r2 T=false):=λh=>by
    unfold r2;rw[D4 BA (BF T) (k+1) (by rw[cj.out,h])];rfl
   cases A:AH 0 l with
   | false =>
    have bs:=U (cl.out (by unfold BA;rw[A];rfl));rw[A]at q;have bl:=U q;clear A q;go_wp2_with fail;refine(AbF p n c l 0 1114111 false _ G BQ be.out bl).mono ?_;rintro e w2 ⟨rfl,b⟩;have dL:=U (m.out.step b);clear b;exact Ahn
   | true =>
    rw[A]at q;have bl:=U q;have c2:=U A;clear A q;obtain⟨B,cm⟩:∃B,Hid (l.any (λs=>Eo s.1 s.2.1)=B):=⟨_,rfl⟩;have co:=U (Aj4 cm.out);go_wp2_with fail;refine(AbF p n c l 0 1114111 true _ G BQ be.out bl).mono ?_;rintro e w2 ⟨rfl,b⟩;have dL:=U (m.out.step b);have L:=U (F.out.below b);have c3:=U (be.out.below b);clear b;go_wp2_with fail;refine(Ab1 (.slice p n c) l 198 #[] _ B _ ⟨p,c,by rw[G.out],c3.out,by rw[G.out];exact cO⟩ (Aur _ L.out) Amr cm).mono ?_;rintro e w3 ⟨rfl,C⟩;have dF:=U (dL.out.step C);clear C;cases B with
    | true =>
     have bs:=U (cl.out (by unfold BA;rw[co.out];simp));exact Awu
    | false =>
     have c4:Hid (((BF T).take (k+1)).all BA=true):=by unfold Hid;rw[cj.out,BA,c2.out,co.out];rfl
     go_wp2;go_roundw
     case rel=>exact⟨k+1,O,An,c4,dF⟩
     case measure=>simp[intOf];omega
  ·obtain rfl:k=7:=by omega
   have c5:Hid ((BF T).all BA=true):=YO;obtain⟨c6,c7,c8,c9,dV⟩:=Qr cd.out;obtain⟨bt,cp⟩:∃B,Hid (Cx (AC T.ext)=B):=⟨_,rfl⟩;obtain⟨bv,cq⟩:∃B,Hid (Cx (AC T.map)=B):=⟨_,rfl⟩;obtain⟨bx,cr⟩:∃B,Hid (Cx (AC T.dec)=B):=⟨_,rfl⟩;obtain⟨b0,cs⟩:∃B,Hid (Nw (AC T.ah)=B):=⟨_,rfl⟩;obtain⟨ct,cu⟩:∃B,Hid (Cx T.af=B):=⟨_,rfl⟩;have ia:Hid (r2 T=(bt&&(bv&&(bx&&(b0&&ct))))):=by
    unfold Hid r2;rw[c5.out,cp.out,cq.out,cr.out,cs.out,cu.out];rfl
   have c':Hid ((AC T.ext).length<=17592186043904):=Y4;have da:Hid ((AC T.map).length<=17592186043904):=Y4;have db:Hid ((AC T.dec).length<=17592186043904):=Y4;have dc:Hid ((AC T.ah).length<=17592186043904):=Y4;obtain⟨⟨df,dj,dk,dm,dn,dq⟩,⟨ds,dx,b1,b2,b3,b4⟩⟩:=m.out.box;clear df dj dk dm dn dq ds b1 b2 b3 b4;go_wp2_with fail;refine(Tk x.a7 T.ext _ m.out.tab.ext c6).mono ?_;rintro e w2 ⟨dy,rfl,cv,b⟩;have dz:=U (cv.aZ c'.out);have dL:=U (m.out.step b);have L:=U (F.out.below b);clear b cv dx;go_wp2_with fail;refine(P9 dy (AC T.ext) 202 Bz bt _ dz.out (Ur _ L.out) Tg cp).mono ?_;rintro e w3 ⟨rfl,C⟩;have dF:=U (dL.out.step C);have dE:=U (L.out.below C);clear C;cases bt with
   | false =>
    go_wp2;go_ret;exact⟨Ia,dF.out.ab⟩
   | true =>
    obtain⟨_,⟨_,_,b1,_,_,_⟩⟩:=dF.out.box;go_wp2_with fail;refine(Tk x.a8 T.map _ dF.out.tab.map c7).mono ?_;rintro e dW ⟨v4,rfl,cx,b5⟩;have dG:=U (cx.aZ da.out);have dH:=U (dF.out.step b5);have cy:=U (dE.out.below b5);clear b5 cx b1;go_wp2_with fail;refine(P9 v4 (AC T.map) 202 Bz bv _ dG.out (Ur _ cy.out) Tg cq).mono ?_;rintro e dX ⟨rfl,b6⟩;have ac:=U (dH.out.step b6);have dJ:=U (cy.out.below b6);clear b6;cases bv with
    | false =>
     go_wp2;go_ret;exact⟨Ia,ac.out.ab⟩
    | true =>
     obtain⟨_,⟨_,_,_,b2,_,_⟩⟩:=ac.out.box;go_wp2_with fail;refine(Tk x.a9 T.dec _ ac.out.tab.dec c8).mono ?_;rintro e w6 ⟨v6,rfl,cA,b7⟩;have dK:=U (cA.aZ db.out);have dM:=U (ac.out.step b7);have cB:=U (dJ.out.below b7);clear b7 cA b2;go_wp2_with fail;refine(P9 v6 (AC T.dec) 202 Bz bx _ dK.out (Ur _ cB.out) Tg cr).mono ?_;rintro e dY ⟨rfl,b8⟩;have ad:=U (dM.out.step b8);have dN:=U (cB.out.below b8);clear b8;cases bx with
     | false =>
      go_wp2;go_ret;exact⟨Ia,ad.out.ab⟩
     | true =>
      obtain⟨_,⟨_,_,_,_,_,b4⟩⟩:=ad.out.box;go_wp2_with fail;refine(Tk x.ax T.ah _ ad.out.tab.ah c9).mono ?_;rintro e dZ ⟨v8,rfl,cC,b9⟩;have dO:=U (cC.aZ dc.out);have dP:=U (ad.out.step b9);have cD:=U (dN.out.below b9);clear b9 cC b4;go_wp2_with fail;refine(P9 v8 (AC T.ah) 203 NL b0 _ dO.out (Aus _ cD.out) Ams cs).mono ?_;rintro e d0 ⟨rfl,b'⟩;have am:=U (dP.out.step b');have dQ:=U (cD.out.below b');clear b';cases b0 with
      | false =>
       go_wp2;go_ret;exact⟨Ia,am.out.ab⟩
      | true =>
       obtain⟨_,⟨_,_,_,_,b3,_⟩⟩:=am.out.box;go_wp2_with fail;refine(P9 x.aB T.af 202 Bz ct _ am.out.tab.af (Ur _ dQ.out) Tg cu).mono ?_;rintro e d1 ⟨rfl,cF⟩;have dR:=U (am.out.step cF);clear cF b3;go_wp2;go_ret;exact⟨Ia,dR.out.ab⟩
def AuM(s:Sp)(c e:Nat)(k8 dI:Int)(w:World)(k:w.cell? ⟨c,0,none⟩=some (.int .i64 k8))(m:w.cell? ⟨e,0,none⟩=some (.int .i64 dI)):Calls prog 256 #[NP s,.pointer (some ⟨c,0,none⟩),.pointer (some ⟨e,0,none⟩)] w (Ar (.bool (decide (s.2.2<k8)||decide (dI<s.2.2))) w):=by
 obtain⟨f,t,v⟩:=s;have F:=AN w _ k;have G:=AN w _ m;have A:=U ((JR w (.cells #[.int .i64 f,.int .i64 t,.int .i64 v] 66) ⟨c,0,none⟩ F).trans k);have C:=U ((JR w (.cells #[.int .i64 f,.int .i64 t,.int .i64 v] 66) ⟨e,0,none⟩ G).trans m);clear k m;obtain⟨B,b⟩:∃B,(decide (v<k8)||decide (dI<v))=B:=⟨_,rfl⟩;simp only[NP];rw[b];by_cases h:v<k8
 ·have q:Hid (B=true):=by unfold Hid;rw[<-b];simp[h]
  clear b;go_enter func256,ntmps256;have L:=A.out;have ac:=C.out;go_wp2;go_ret;exact⟨by rw[q.out];rfl,(Al _ _).alloc (Ac _) _⟩
 ·have q:Hid (B=true↔dI<v):=by unfold Hid;rw[<-b];simp[h]
  have ad:decide (v<k8)=false:=Ai h;clear h b;go_enter func256,ntmps256;have L:=A.out;have ac:=C.out;go_wp2
  all_goals
   go_ret;exact⟨Lo (by rw[q.out];first|(simp;done)|(simp;omega)),(Al _ _).alloc (Ac _) _⟩
def Amw:∀args w,(callFunc 256 args).run prog w=.ok (.enter 256 args) w:=Proofs.enters_of func256 Ax rfl
def Auv(b c: Nat)(k8 dI: Int)(w: World)(e: w.cell? ⟨b, 0, none⟩ = some (.int .i64 k8))(h: w.cell? ⟨c, 0, none⟩ = some (.int .i64 dI)) :
  Lg 256 #[.pointer (some ⟨b,0,none⟩),.pointer (some ⟨c,0,none⟩)] (λs=>decide (s.2.2<k8)||decide (dI<s.2.2)) w:=λs W k=>
 AuM s b c k8 dI W ((k.cell (p:=⟨b,0,none⟩) (AN w _ e)).trans e) ((k.cell (p:=⟨c,0,none⟩) (AN w _ h)).trans h)
def AuL(k8 dI:Int)(l:List Sp):DB k8 dI l = !l.any λs=>decide (s.2.2<k8)||decide (dI<s.2.2):=by
 rw[DB,Gd];simp only[AR,AJ,A4,N7,R8,Ic,not_or,Int.not_lt]
def NS(b:Value)(l:List Sp)(k8 dI:Int)(B:Bool)(w:World)(h:Cw w b l)(F:Hid (DB k8 dI l=B)):Calls prog 204 #[b,.int .i64 k8,.int .i64 dI] w (Ar (.bool B) w):=by
 have c:Below w.heap.size w ((w.alloc (.cells #[.int .i64 k8] 3)).alloc (.cells #[.int .i64 dI] 3)):=((Al _ _).alloc (Ac _) _).alloc J _;have G:=U (h.below c);have k:=U c;have m:((w.alloc (.cells #[.int .i64 k8] 3)).alloc (.cells #[.int .i64 dI] 3)).cell? ⟨w.heap.size,0,none⟩=some (.int .i64 k8):=J;have q:((w.alloc (.cells #[.int .i64 k8] 3)).alloc (.cells #[.int .i64 dI] 3)).cell? ⟨w.heap.size+1,0,none⟩=some (.int .i64 dI):=J;have L:=U (Auv _ _ k8 dI _ m q);have A:l.any (λs=>decide (s.2.2<k8)||decide (dI<s.2.2)) = !B:=by rw[<-F.out,AuL];simp
 have ac:=U A;clear c h m q A;go_enter func204,ntmps204;go_wp2_with fail;refine(Ab1 b l _ _ _ (!B) _ G.out L.out Amw ac).mono ?_;rintro e w1 ⟨rfl,C⟩;have ad:=U (k.out.trans (C.mono k.out.size));clear C;go_wp2;go_ret;exact⟨by cases B<;>rfl,ad.out⟩
def AuU(x:TV)(T:Y)(w:World)(s:Ah w x T):Calls prog 142 #[x.agg] w (Ar (.bool (r3 T)) w):=by
 have ac:=U (Am.new s);obtain⟨b,A⟩:∃B,Hid (DB 0 8 T.cat=B):=⟨_,rfl⟩;obtain⟨c,C⟩:∃B,Hid (DB 1 254 T.ai=B):=⟨_,rfl⟩;obtain⟨h,F⟩:∃B,Hid (DB 0 5 T.al=B):=⟨_,rfl⟩;obtain⟨m,G⟩:∃B,Hid (DB 0 11 T.ak=B):=⟨_,rfl⟩;obtain⟨q,L⟩:∃B,Hid (DB 0 60 T.aj=B):=⟨_,rfl⟩;obtain⟨B6,am⟩:∃B,Hid (DB 0 4 T.ag=B):=⟨_,rfl⟩;obtain⟨a9,a'⟩:∃B,Hid (DB 1 1 T.an=B):=⟨_,rfl⟩;have ia:Hid (r3 T=(b&&(c&&(h&&(m&&(q&&(B6&&a9))))))):=by
  unfold Hid r3;rw[A.out,C.out,F.out,G.out,L.out,am.out,a'.out]
 clear s;simp only[TV.agg];go_enter func142,ntmps142;go_wp2_with fail;refine(NS x.a0 T.cat 0 8 b _ ac.out.tab.cat A).mono ?_;rintro e w1 ⟨rfl,ad⟩;replace ac:=U (ac.out.step ad);clear ad;cases b with
 | false=>go_wp2;go_ret;exact⟨Ia,ac.out.ab⟩
 | true =>
  obtain⟨⟨_,k,_,_,_,_⟩,_⟩:=ac.out.box;go_wp2_with fail;refine(NS x.a1 T.ai 1 254 c _ ac.out.tab.ai C).mono ?_;rintro e w2 ⟨rfl,ad⟩;replace ac:=U (ac.out.step ad);clear ad k;cases c with
  | false=>go_wp2;go_ret;exact⟨Ia,ac.out.ab⟩
  | true =>
   obtain⟨⟨_,_,k,_,_,_⟩,_⟩:=ac.out.box;go_wp2_with fail;refine(NS x.a2 T.al 0 5 h _ ac.out.tab.al F).mono ?_;rintro e w3 ⟨rfl,ad⟩;replace ac:=U (ac.out.step ad);clear ad k;cases h with
   | false=>go_wp2;go_ret;exact⟨Ia,ac.out.ab⟩
   | true =>
    obtain⟨⟨_,_,_,k,_,_⟩,_⟩:=ac.out.box;go_wp2_with fail;refine(NS x.a3 T.ak 0 11 m _ ac.out.tab.ak G).mono ?_;rintro e ba ⟨rfl,ad⟩;replace ac:=U (ac.out.step ad);clear ad k;cases m with
    | false=>go_wp2;go_ret;exact⟨Ia,ac.out.ab⟩
    | true =>
     obtain⟨⟨_,_,_,_,k,_⟩,_⟩:=ac.out.box;go_wp2_with fail;refine(NS x.a4 T.aj 0 60 q _ ac.out.tab.aj L).mono ?_;rintro e bb ⟨rfl,ad⟩;replace ac:=U (ac.out.step ad);clear ad k;cases q with
     | false=>go_wp2;go_ret;exact⟨Ia,ac.out.ab⟩
     | true =>
      obtain⟨⟨_,_,_,_,_,k⟩,_⟩:=ac.out.box;go_wp2_with fail;refine(NS x.a5 T.ag 0 4 B6 _ ac.out.tab.ag am).mono ?_;rintro e w6 ⟨rfl,ad⟩;replace ac:=U (ac.out.step ad);clear ad k;cases B6 with
      | false=>go_wp2;go_ret;exact⟨Ia,ac.out.ab⟩
      | true =>
       obtain⟨_,⟨k,_,_,_,_,_⟩⟩:=ac.out.box;go_wp2_with fail;refine(NS x.a6 T.an 1 1 a9 _ ac.out.tab.an a').mono ?_;rintro e bc ⟨rfl,ad⟩;exact AyN
def Vy(g:Nat)(p:List Int->Bool)(w:World):Prop:=
 ∀(l:List Int) (v:Value) (W:World),Below w.heap.size w W->Bp W v l->Calls prog g #[v] W (Ar (.bool (p l)) W)
def JC(m:Mp):Bool:=decide (1<=m.2.length)&&decide (m.2.length<=18)
def Af9(bd:Value)(l:List Mp)(g:Nat)(q:List Int->Bool)(w:World)(b6:DK w bd l)(be:Vy g q w)(cg:∀args w,(callFunc g args).run prog w=.ok (.enter g args) w):Calls prog 205 #[bd,.func (.func g) #[] #[]] w (Ar (.bool (l.all λm=>JC m&&q m.2)) w):=by
 obtain⟨p,ci,rfl,bl,b7⟩:=b6;obtain⟨n,a'⟩:∃n,l.length=n:=⟨_,rfl⟩;rw[a']at b7|-;have b8:=U bl;have cF:=U a';have b9:=U be;clear bl a' be;go_enter func205,ntmps205;go_wp2;go_loopw[9] (λi wr=>∃k:Nat,k<=n/\i=.int .i64 k/\Hid ((l.take k).all (λm=>JC m&&q m.2)=true)/\Hid (Below w.heap.size w wr)) (λi _=>n-(intOf i).toNat)
 case atStart=>exact⟨0,Au _,rfl,DH,Al _ _⟩
 case round=>
  obtain⟨k,cj,rfl,bt,F⟩:=hrel;by_cases b':k<n
  ·have bv:k<l.length:=by rw[cF.out];exact b'
   obtain⟨b,ff,v,rfl,bx,ba,G,L,rfl,ac,ad⟩:=(b8.out.below F.out) k bv;have c:=Fj (λm:Mp=>JC m&&q m.2) l k Ay bv;rw[bt.out,BG]at c;have am:JC (l.getD k Ay)=false\/q (l.getD k Ay).2=false->l.all (λm=>JC m&&q m.2)=false:=λh=>by
    refine D4 _ l (k+1) ?_;rw[c];rcases h with h|h
    ·rw[h];rfl
    ·rw[h,Ib]
   have A:JC (l.getD k Ay)=(decide (1<=(l.getD k Ay).2.length)&&decide ((l.getD k Ay).2.length<=18)):=rfl;obtain⟨⟨f,y⟩,b0⟩:∃s,l.getD k Ay=s:=⟨_,rfl⟩;rw[b0]at bx ba c am A ac ad;simp only at bx ba c am A ac ad;obtain⟨m,a9⟩:∃m,y.length=m:=⟨_,rfl⟩;rw[a9]at ba A ad;have b1:=F.out.alloc F.out.size (.cells #[.int .i64 f,.slice G m L] 73);have b2:Bp (wr.alloc (.cells #[.int .i64 f,.slice G m L] 73)) (.slice G m L) y:=⟨G,L,by rw[a9],BE.alloc ac _,by rw[a9];exact ad⟩;have ca:=U c;have eV:=U am;have eT:=U b1;have cb:=U b2;have fb:=U A;clear b0 c am a9 ac b1 b2 A;by_cases b3:m<1
   ·have cc:decide ((m:Int)<1)=true:=At O;exact AvI
   ·have cc:decide ((m:Int)<1)=false:=Ai O;by_cases b4:18<m
    ·have cd:decide ((18:Int)<(m:Int))=true:=At O;exact AvI
    ·have cd:decide ((18:Int)<(m:Int))=false:=Ai O;obtain⟨B,bb⟩:∃B,Hid (q y=B):=⟨_,rfl⟩;have bc:=b9.out y _ _ eT.out cb.out;rw[bb.out]at bc;have b5:=U bc;have ce:Hid (JC (f,y)=true):=by unfold Hid;rw[fb.out];simp;omega
     clear bc;cases B with
     | false =>
      have bs:=U (eV.out (.inr bb.out));clear b3 b4;go_wp2_with (go_at_fn g;refine b5.out.mono ?_;rintro e w2 ⟨rfl,C⟩;have cx:=U (eT.out.trans (C.mono eT.out.size));clear C);exact Axb
     | true =>
      have cf:Hid ((l.take (k+1)).all (λm=>JC m&&q m.2)=true):=by unfold Hid;rw[ca.out,ce.out,bb.out];rfl
      clear b3 b4;go_wp2_with (go_at_fn g;refine b5.out.mono ?_;rintro e w2 ⟨rfl,C⟩;have cx:=U (eT.out.trans (C.mono eT.out.size));clear C);go_roundw
      case rel=>exact⟨k+1,O,An,cf,cx⟩
      case measure=>simp[intOf];omega
  ·obtain rfl:k=n:=by omega
   have bs:Hid (l.all (λm=>JC m&&q m.2)=true):=by
    have:=bt.out;exact Y9
   go_wp2;go_ret;rw[bs.out];exact⟨rfl,F.out⟩
def AjF(c:Int)(w:World)(e:Ending)(w':World):Prop:=∃n:Int,e=.returned (.int .i64 n)/\(n=0↔AA c=false)/\w=w'
def Atl{c:Int}:AA c=false↔¬(0<=c/\c<=1114111/\(c<55296\/57343<c)):=by rw[<-NN];simp
def AdF(c:Int)(w:World):Calls prog 74 #[.int .i64 c] w (AjF c w):=by
 have c6:=U (@Atl c);go_enter func74,ntmps74;go_wp2
 all_goals
  go_ret;exact⟨_,rfl,Ain,rfl⟩
def NH(c:Int):Bool:=!AA c
def Atk(c:Int)(w:World):Calls prog 257 #[.int .i64 c] w (Ar (.bool (NH c)) w):=by
 obtain⟨B,b⟩:∃B,Hid (AA c=B):=⟨_,rfl⟩;have bb:Hid (NH c = !B):=by unfold Hid NH;rw[b.out]
 go_enter func257,ntmps257;go_wp2_with fail;refine(AdF c _).mono ?_;rintro e w1 ⟨n,rfl,bx,rfl⟩;rw[b.out]at bx;cases B with
 | true =>
  have h:(n==0)=false:=by simp;simpa using bx
  exact AzG
 | false =>
  have h:(n==0)=true:=UO;exact AzG
def Aut(w:World):G3 257 #[] NH w:=λc W _=>Atk c W
def Amu:∀args w,(callFunc 257 args).run prog w=.ok (.enter 257 args) w:=Proofs.enters_of func257 Ax rfl
def Amt:∀args w,(callFunc 208 args).run prog w=.ok (.enter 208 args) w:=Proofs.enters_of func208 Ax rfl
def Amp:∀args w,(callFunc 206 args).run prog w=.ok (.enter 206 args) w:=Proofs.enters_of func206 Ax rfl
def Atm(b:Value)(l:List Int)(w:World)(h:Bp w b l):Calls prog 208 #[b] w (Ar (.bool (l.all AA)) w):=by
 obtain⟨B,k⟩:∃B,Hid (l.any NH=B):=⟨_,rfl⟩;have bb:Hid (l.all AA = !B):=by unfold Hid;rw[<-TI k.out];congr 1;funext c;simp[NH]
 have m:=U h;clear h;go_enter func208,ntmps208;go_wp2_with fail;refine(Qh b l 257 #[] NH B _ m.out (Aut _) Amu k).mono ?_;exact AyZ
def AmF(b:Value)(l:List Int)(w:World)(c:Bp w b l):Calls prog 206 #[b] w (Ar (.bool (AL 3 60 l)) w):=by
 obtain⟨B,h⟩:∃B,Hid (AL 3 60 l=B):=⟨_,rfl⟩;have k:=U c;clear c;go_enter func206,ntmps206;go_wp2_with fail;refine(VH b l 3 60 B _ k.out h).mono ?_;rintro e w1 ⟨rfl,rfl⟩;go_wp2;go_ret;exact⟨by rw[h.out];rfl,Al _ _⟩
def Auq(w:World):Vy 208 (λl=>l.all AA) w:=λl v W _ b=>Atm v l W b
def Aup(w:World):Vy 206 (AL 3 60) w:=λl v W _ b=>AmF v l W b
def Att(l:List Mp):(l.all λm=>JC m&&AL 3 60 m.2)=l.all Uf:=rfl
def Atw(l:List Mp):(l.all λm=>JC m&&m.2.all AA)=l.all GB:=rfl
def Atx(b:Value)(l:List Mp)(B:Bool)(w:World)(c:DK w b l)(e:Hid (l.all Uf=B)):Calls prog 205 #[b,.func (.func 206) #[] #[]] w (Ar (.bool B) w):=by
 rw[<-e.out,<-Att];exact Af9 b l _ _ w c (Aup w) Amp
def X8(b:Value)(l:List Mp)(B:Bool)(w:World)(c:DK w b l)(e:Hid (l.all GB=B)):Calls prog 205 #[b,.func (.func 208) #[] #[]] w (Ar (.bool B) w):=by
 rw[<-e.out,<-Atw];exact Af9 b l _ _ w c (Auq w) Amt
def Aty(x:TV)(T:Y)(w:World)(m:Ah w x T):Calls prog 143 #[x.agg] w (Ar (.bool (r4 T)) w):=by
 have ac:=U (Am.new m);obtain⟨b,q⟩:∃B,Hid (T.ext.all Uf=B):=⟨_,rfl⟩;obtain⟨c,s⟩:∃B,Hid (T.map.all GB=B):=⟨_,rfl⟩;obtain⟨h,A⟩:∃B,Hid (T.dec.all GB=B):=⟨_,rfl⟩;obtain⟨C,F⟩:∃B,Hid (T.ah.all GB=B):=⟨_,rfl⟩;have ia:Hid (r4 T=(b&&(c&&(h&&C)))):=by
  unfold Hid r4;rw[q.out,s.out,A.out,F.out]
 clear m;simp only[TV.agg];go_enter func143,ntmps143;go_wp2_with fail;refine(Atx x.a7 T.ext b _ ac.out.tab.ext q).mono ?_;rintro e w1 ⟨rfl,ad⟩;replace ac:=U (ac.out.step ad);clear ad;cases b with
 | false=>go_wp2;go_ret;exact⟨Ia,ac.out.ab⟩
 | true =>
  obtain⟨_,⟨_,_,k,_,_,_⟩⟩:=ac.out.box;go_wp2_with fail;refine(X8 x.a8 T.map c _ ac.out.tab.map s).mono ?_;rintro e w2 ⟨rfl,ad⟩;replace ac:=U (ac.out.step ad);clear ad k;cases c with
  | false=>go_wp2;go_ret;exact⟨Ia,ac.out.ab⟩
  | true =>
   obtain⟨_,⟨_,_,_,k,_,_⟩⟩:=ac.out.box;go_wp2_with fail;refine(X8 x.a9 T.dec h _ ac.out.tab.dec A).mono ?_;rintro e w3 ⟨rfl,ad⟩;replace ac:=U (ac.out.step ad);clear ad k;cases h with
   | false=>go_wp2;go_ret;exact⟨Ia,ac.out.ab⟩
   | true =>
    obtain⟨_,⟨_,_,_,_,_,k⟩⟩:=ac.out.box;go_wp2_with fail;refine(X8 x.ax T.ah C _ ac.out.tab.ah F).mono ?_;rintro e G ⟨rfl,ad⟩;exact AyN
def Tj(c a b s t:Int)(w:World)(k:Hid (Fs c=a))(m:Hid (FO c=b))(q:Hid (Gt c=s))(A:Hid (F4 c=t)):Calls prog 221 #[.int .i64 c] w (Ar (.agg #[.int .i64 a,.int .i64 b,.int .i64 s,.int .i64 t]) w):=
 (Am0 c w).mono λe w' h=>by rw[<-k.out,<-m.out,<-q.out,<-A.out];exact h
def Bx(w:World):Below w.heap.size w w.drew:=⟨rfl,rfl,rfl,Ac _,λ_ _=>rfl⟩
theorem Am.aV{w0 w:World}{x:TV}{T:Y}(h:Am w0 x T w):w.cell? ⟨w0.heap.size,5,none⟩=some x.a5:=h.box.1.2.2.2.2.2
theorem Am.aR{w0 w:World}{x:TV}{T:Y}(h:Am w0 x T w):w.cell? ⟨w0.heap.size,4,none⟩=some x.a4:=h.box.1.2.2.2.2.1
theorem Am.aQ{w0 w:World}{x:TV}{T:Y}(h:Am w0 x T w):w.cell? ⟨w0.heap.size,3,none⟩=some x.a3:=h.box.1.2.2.2.1
theorem Am.bF{w0 w:World}{x:TV}{T:Y}(h:Am w0 x T w):w.cell? ⟨w0.heap.size,2,none⟩=some x.a2:=h.box.1.2.2.1
theorem Am.bP{w0 w:World}{x:TV}{T:Y}(h:Am w0 x T w):w.cell? ⟨w0.heap.size,1,none⟩=some x.a1:=h.box.1.2.1
theorem Am.aP{w0 w:World}{x:TV}{T:Y}(h:Am w0 x T w):w.cell? ⟨w0.heap.size,0,none⟩=some x.a0:=h.box.1.1
theorem Am.bQ{w0 w:World}{x:TV}{T:Y}(h:Am w0 x T w):w.cell? ⟨w0.heap.size,6,none⟩=some x.a6:=h.box.2.1
theorem Am.cR{w0 w:World}{x:TV}{T:Y}(h:Am w0 x T w):w.cell? ⟨w0.heap.size,7,none⟩=some x.a7:=h.box.2.2.1
theorem Am.at8{w0 w:World}{x:TV}{T:Y}(h:Am w0 x T w):w.cell? ⟨w0.heap.size,8,none⟩=some x.a8:=h.box.2.2.2.1
theorem Am.at9{w0 w:World}{x:TV}{T:Y}(h:Am w0 x T w):w.cell? ⟨w0.heap.size,9,none⟩=some x.a9:=h.box.2.2.2.2.1
theorem Am.cQ{w0 w:World}{x:TV}{T:Y}(h:Am w0 x T w):w.cell? ⟨w0.heap.size,10,none⟩=some x.aB:=h.box.2.2.2.2.2.1
theorem Am.bE{w0 w:World}{x:TV}{T:Y}(h:Am w0 x T w):w.cell? ⟨w0.heap.size,11,none⟩=some x.ax:=h.box.2.2.2.2.2.2
def Um(x:TV)(T:Y)(c z:Int)(w:World)(h:Ah w x T)(m:AH 0 T.ag=true)(F:Hid (AM T c=z)):Calls prog 151 #[x.agg,.int .i64 c] w (Ar (.int .i64 z) w):=by
 have ac:=U ((Am.new h).step (Bx _));have k:=(Am.new h).aV;have G:=U m;obtain⟨q,L⟩:∃z,Hid (Fs c=z):=⟨_,rfl⟩;obtain⟨s,ad⟩:∃z,Hid (FO c=z):=⟨_,rfl⟩;obtain⟨A,am⟩:∃z,Hid (Gt c=z):=⟨_,rfl⟩;obtain⟨b,C⟩:∃z,Hid (F4 c=z):=⟨_,rfl⟩;have a9:Hid ((val T.ag c).getD b=z):=by unfold Hid;rw[<-F.out,<-C.out];rfl
 have a':∀w,(Instr.field 185 (.agg #[.int .i64 q,.int .i64 s,.int .i64 A,.int .i64 b]) 3).run prog w=.ok (.int .i64 b) w:=λ_=>Ax;clear h m;simp only[TV.agg];go_enter func151,ntmps151;go_wp2_with fail;go_region_held3 (λw'=>w'.cell? ⟨w.heap.size,5,none⟩=some x.a5)
  (first
   | go_keep
   | exact((ac.out.step dK).step eS).aV
   | exact(ac.out.step dK).aV)
  (first
   | (go_at_call 221;(with_reducible refine(Tj c q s A b _ L ad am C).mono ?_);rintro e w2 ⟨rfl,dK⟩)
   | (go_at_call 220;(with_reducible refine(Pe x.a5 T.ag c b z _ (ac.out.step dK).tab.ag G.out a9).mono ?_);rintro e w3 ⟨rfl,eS⟩))
 all_goals
  exact YA
def AkS(x:TV)(T:Y)(c z:Int)(w:World)(h:Ah w x T)(m:AH 0 T.cat=true)(F:Hid (Jj T c=z)):Calls prog 163 #[x.agg,.int .i64 c] w (Ar (.int .i64 z) w):=by
 have ac:=U ((Am.new h).step (Bx _));have k:=(Am.new h).aP;have G:=U m;obtain⟨b,q⟩:∃z,Hid (Fs c=z):=⟨_,rfl⟩;obtain⟨s,L⟩:∃z,Hid (FO c=z):=⟨_,rfl⟩;obtain⟨A,ad⟩:∃z,Hid (Gt c=z):=⟨_,rfl⟩;obtain⟨C,am⟩:∃z,Hid (F4 c=z):=⟨_,rfl⟩;have a9:Hid ((val T.cat c).getD b=z):=by unfold Hid;rw[<-F.out,<-q.out];rfl
 have a':∀w,(Instr.field 185 (.agg #[.int .i64 b,.int .i64 s,.int .i64 A,.int .i64 C]) 0).run prog w=.ok (.int .i64 b) w:=λ_=>Ax;clear h m;simp only[TV.agg];go_enter func163,ntmps163;go_wp2_with fail;go_region_held3 (λw'=>w'.cell? ⟨w.heap.size,0,none⟩=some x.a0)
  (first
   | go_keep
   | exact((ac.out.step dK).step eS).aP
   | exact(ac.out.step dK).aP)
  (first
   | (go_at_call 221;(with_reducible refine(Tj c b s A C _ q L ad am).mono ?_);rintro e w2 ⟨rfl,dK⟩)
   | (go_at_call 220;(with_reducible refine(Pe x.a0 T.cat c b z _ (ac.out.step dK).tab.cat G.out a9).mono ?_);rintro e w3 ⟨rfl,eS⟩))
 all_goals
  exact YA
def Rb(x:TV)(T:Y)(c z:Int)(w:World)(h:Ah w x T)(m:AH 0 T.aj=true)(F:Hid (Ep T c=z)):Calls prog 276 #[x.agg,.int .i64 c] w (Ar (.int .i64 z) w):=by
 have ac:=U ((Am.new h).step (Bx _));have k:=(Am.new h).aR;have G:=U m;obtain⟨q,L⟩:∃z,Hid (Fs c=z):=⟨_,rfl⟩;obtain⟨s,ad⟩:∃z,Hid (FO c=z):=⟨_,rfl⟩;obtain⟨b,A⟩:∃z,Hid (Gt c=z):=⟨_,rfl⟩;obtain⟨C,am⟩:∃z,Hid (F4 c=z):=⟨_,rfl⟩;have a9:Hid ((val T.aj c).getD b=z):=by unfold Hid;rw[<-F.out,<-A.out];rfl
 have a':∀w,(Instr.field 185 (.agg #[.int .i64 q,.int .i64 s,.int .i64 b,.int .i64 C]) 2).run prog w=.ok (.int .i64 b) w:=λ_=>Ax;clear h m;simp only[TV.agg];go_enter func276,ntmps276;go_wp2_with fail;go_region_held3 (λw'=>w'.cell? ⟨w.heap.size,4,none⟩=some x.a4)
  (first
   | go_keep
   | exact((ac.out.step dK).step eS).aR
   | exact(ac.out.step dK).aR)
  (first
   | (go_at_call 221;(with_reducible refine(Tj c q s b C _ L ad A am).mono ?_);rintro e w2 ⟨rfl,dK⟩)
   | (go_at_call 220;(with_reducible refine(Pe x.a4 T.aj c b z _ (ac.out.step dK).tab.aj G.out a9).mono ?_);rintro e w3 ⟨rfl,eS⟩))
 all_goals
  exact YA
noncomputable def Cf (w p:World):World:=@ite _ (Below w.heap.size w p) (Classical.propDecidable _) p w.drew
def Dx(w p:World):Below w.heap.size w (Cf w p):=by
 unfold Cf;by_cases h:Below w.heap.size w p
 ·rw[N h];exact h
 ·rw[V h];exact Bx w
def WQ{w W:World}(h:Below w.heap.size w W):W=Cf w W:=by
 unfold Cf;rw[N h]
def Aj{w:World}{a:Addr}{v:Value}(h:w.cell? a=some v)(p:World):(Cf w p).cell? a=some v:=
 ((Dx w p).cell (AN w _ h)).trans h
def DG{P:Program}{id:Nat}{Q:Exit->Act->World->Prop}{a:Act}{w:World}{l:List Oper}(b:P.follows .mixedOrders=true)(c:Region.lexB .any l.toArray=true)(h:wpQuiet P l.toArray (λw'=>∃p:World,w'=Cf w p) (λe=>∀w',(∃p:World,w'=Cf w p)->Q .normal e w') l a):(Code.region id l.toArray true).wp P Q a w:=
 wp_region_quiet (C:=λw'=>∃p:World,w'=Cf w p) b c ⟨_,WQ (Bx w)⟩ Co
def Dm{P:Program}{f:FuncId}{args:Array Value}{w p:World}{v:Value}(h:∀W,Below w.heap.size w W->Calls P f args W (Ar v W)):Calls P f args (Cf w p) λe b=>e=.returned v/\∃q:World,b=Cf w q:=
 (h _ (Dx w p)).mono λ_ b ⟨c,k⟩=>⟨c,b,WQ ((Dx w p).trans (k.mono (Dx w p).size))⟩
def Au'{P:Program}{md:Region.Mode}{ops:Array Oper}{Q:Exit->Act->World->Prop}{n:Nat}{listed:Array Bool}{a:Act}{w:World}(k:Nat)(l:List Oper)(c:ops.toList.drop k=l)(e:n=l.length)(m:Region.noSelect ops=true)(q:Region.lexFrom md ops l.length k listed=true)(h:wpQuiet P ops (λw'=>∃p:World,w'=Cf w p) (λb=>∀w',(∃p:World,w'=Cf w p)->Q .normal b w') l a):wpAny P md ops Q n listed a w:=by
 subst e;refine wpAny_of_quiet (C:=λw'=>∃p:World,w'=Cf w p) (Q:=λb=>∀w',(∃p:World,w'=Cf w p)->Q .normal b w') (λ_ w' s h=>h w' s) _ _ _ _ ⟨w,WQ (Al _ _)⟩ ?_;refine wpAnyQ_lex m l k listed a (λj=>?_) q h;rw[<-c];simp
end Go.Proofs.YtblcoicaeeiojaaGreatDoor
