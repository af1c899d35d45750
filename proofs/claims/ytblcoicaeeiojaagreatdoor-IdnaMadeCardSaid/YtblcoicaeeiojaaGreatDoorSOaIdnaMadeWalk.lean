/- The walk of IdnaMade (ge -/
import Derived.Test.YtblcoicaeeiojaaGreatDoorSOaIdnAg
import Derived.Test.YtblcoicaeeiojaaGreatDoorSOaKeepRaw
set_option linter.all false
set_option maxHeartbeats 8000000
set_option maxRecDepth 100000
open Go.Proofs.Tryz
namespace Go.Proofs.YtblcoicaeeiojaaGreatDoor
open Go.RowKit
def AnQ(co:Option Addr)(cA:Nat)(cl:List Int)(cp:Option Addr)(cB:Nat)(cg:List Int)(cq:ByteArray)(w:World)(cC:Aq w co cl)(cD:cl.length<=17592186043904)(cF:Aq w cp cg)(cI:cg.length<=17592186043904)(cO:cq.size<=140737488351232)(c2:Bi w):Calls prog 3 #[.slice co cl.length cA,.slice cp cg.length cB,.string cq] w (Ar (.bool true) w):=by
 have c8:=U cC;have c9:=U cD;have c':=U cF;have da:=U cI;have db:=U cO;have cr:=U c2;clear cC cD cF cI cO c2;go_enter func3,ntmps3;go_wp2_with fail;refine(O8 co cA cl _ c8.out c9.out).mono ?_;rintro e w1 ⟨⟨a0,a1,a2,a3,a4,a5,dc,df,dj,dk,dm,dn⟩,T,rfl,b,cd,c3,cs⟩;obtain⟨k,q,s,dq⟩:Ag a0:=b.cat.ae;subst dq;obtain⟨A,C,F,ds⟩:Ag a1:=b.ai.ae;subst ds;obtain⟨G,L,ac,dx⟩:Ag a2:=b.al.ae;subst dx;obtain⟨ad,am,a9,dy⟩:Ag a3:=b.ak.ae;subst dy;obtain⟨a',ba,bb,dz⟩:Ag a4:=b.aj.ae;subst dz;obtain⟨bc,bd,be,dE⟩:Ag a5:=b.ag.ae;subst dE;obtain⟨bl,bs,bt,dF⟩:Ag dc:=b.an.ae;subst dF;obtain⟨bv,bx,b0,dG⟩:Ag df:=b.ext.ae;subst dG;obtain⟨b1,b2,b3,dH⟩:Ag dj:=b.map.ae;subst dH;obtain⟨b4,b5,b6,dJ⟩:Ag dk:=b.dec.ae;subst dJ;obtain⟨b7,b8,b9,dK⟩:Ag dm:=b.af.ae;subst dK;obtain⟨b',ca,cb,dL⟩:Ag dn:=b.ah.ae;subst dL;have ct:Below w1.heap.size w1 (w1.alloc (.cells (AG ⟨.slice k q s,.slice A C F,.slice G L ac,.slice ad am a9,.slice a' ba bb,.slice bc bd be,.slice bl bs bt,.slice bv bx b0,.slice b1 b2 b3,.slice b4 b5 b6,.slice b7 b8 b9,.slice b' ca cb⟩) 26)):=(Al _ _).alloc (Ac _) _;have ci:Hid (Ah (w1.alloc (.cells (AG ⟨.slice k q s,.slice A C F,.slice G L ac,.slice ad am a9,.slice a' ba bb,.slice bc bd be,.slice bl bs bt,.slice bv bx b0,.slice b1 b2 b3,.slice b4 b5 b6,.slice b7 b8 b9,.slice b' ca cb⟩) 26)) ⟨.slice k q s,.slice A C F,.slice G L ac,.slice ad am a9,.slice a' ba bb,.slice bc bd be,.slice bl bs bt,.slice bv bx b0,.slice b1 b2 b3,.slice b4 b5 b6,.slice b7 b8 b9,.slice b' ca cb⟩ T):=b.below ct;have ce:Hid (AS (w1.alloc (.cells (AG ⟨.slice k q s,.slice A C F,.slice G L ac,.slice ad am a9,.slice a' ba bb,.slice bc bd be,.slice bl bs bt,.slice bv bx b0,.slice b1 b2 b3,.slice b4 b5 b6,.slice b7 b8 b9,.slice b' ca cb⟩) 26)) w1.heap.size ⟨.slice k q s,.slice A C F,.slice G L ac,.slice ad am a9,.slice a' ba bb,.slice bc bd be,.slice bl bs bt,.slice bv bx b0,.slice b1 b2 b3,.slice b4 b5 b6,.slice b7 b8 b9,.slice b' ca cb⟩):=AS.new _ _ _;have cm:Hid (Below w.heap.size w (w1.alloc (.cells (AG ⟨.slice k q s,.slice A C F,.slice G L ac,.slice ad am a9,.slice a' ba bb,.slice bc bd be,.slice bl bs bt,.slice bv bx b0,.slice b1 b2 b3,.slice b4 b5 b6,.slice b7 b8 b9,.slice b' ca cb⟩) 26))):=cs.trans (ct.mono cs.size);have dQ:=U cd;have cu:Hid (Du ⟨.slice k q s,.slice A C F,.slice G L ac,.slice ad am a9,.slice a' ba bb,.slice bc bd be,.slice bl bs bt,.slice bv bx b0,.slice b1 b2 b3,.slice b4 b5 b6,.slice b7 b8 b9,.slice b' ca cb⟩):=c3;clear b cd c3 cs ct;simp only[AG]at ci ce cm;go_upto_region 2 with(fail);generalize (w1.alloc (.cells #[.slice k q s,.slice A C F,.slice G L ac,.slice ad am a9,.slice a' ba bb,.slice bc bd be,.slice bl bs bt,.slice bv bx b0,.slice b1 b2 b3,.slice b4 b5 b6,.slice b7 b8 b9,.slice b' ca cb] 26))=W at ci ce cm|-;generalize w1.heap.size=g at ce|-;generalize (⟨.slice k q s,.slice A C F,.slice G L ac,.slice ad am a9,.slice a' ba bb,.slice bc bd be,.slice bl bs bt,.slice bv bx b0,.slice b1 b2 b3,.slice b4 b5 b6,.slice b7 b8 b9,.slice b' ca cb⟩:TV)=x at ci ce cu;have c4:Hid (J3 w g x T W):=⟨ci.out,ce.out,cm.out⟩;clear ci ce cm;have cv:=λW cj=>Tu cp cB cg W cj da.out;obtain⟨m,cd⟩:∃m,cg.length=m:=⟨_,rfl⟩;rw[cd]at cv;rw[cd];have dM:=U cv;have c5:=λ(S:ByteArray) W (cj:Ah W x T) cx (dR:S.size<=90)=>Ol x T S W cj cu.out cx O;have c6:=λW (cj:Ah W x T) cx=>Ol x T cq W cj cu.out cx (by have:=db.out;omega);have dN:=U c5;have dO:=U c6;have c7:=c4.out.step (Bx W);have c:=U c7;clear c7 cv cd c5 c6;obtain⟨⟨dS,dT,dU,dV,dW,dX⟩,⟨dY,dZ,d0,d1,d2,d3⟩⟩:=c4.out.box.load;go_region_held3 (J_ g x)
  (first
   | exact c.out.box.flat
   | exact(c.out.step h).box.flat
   | exact((c.out.step h).step cc).box.flat
   | exact(((c.out.step h).step cc).step cf).box.flat
   | exact((((c.out.step h).step cc).step cf).step cy).box.flat)
  (first
   | (go_at_call 12;(with_reducible refine(Qa _ (cr.out.below c.out.ab)).mono ?_);rintro e w3 ⟨rfl,h⟩)
   | (go_at_call 14;(with_reducible refine(dM.out _ (c'.out.below (c.out.step h).ab)).mono ?_);rintro e d4 ⟨S,rfl,dP,cc⟩)
   | (go_at_call 13;(with_reducible refine(dN.out S _ ((c.out.step h).step cc).tab (cr.out.below ((c.out.step h).step cc).ab) dP).mono ?_);rintro e d5 ⟨rfl,cf⟩)
   | (go_at_call 13;(with_reducible refine(dO.out _ (((c.out.step h).step cc).step cf).tab (cr.out.below (((c.out.step h).step cc).step cf).ab)).mono ?_);rintro e w6 ⟨rfl,cy⟩)
   | fail)
 all_goals
  have fO:=U (((((c.out.step h).step cc).step cf).step cy)).ab;clear h cc cf cy;exact Ajh
end Go.Proofs.YtblcoicaeeiojaaGreatDoor
