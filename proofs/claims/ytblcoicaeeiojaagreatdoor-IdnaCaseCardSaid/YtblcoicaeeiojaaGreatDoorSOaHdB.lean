/- short names of lemmas -/
import Derived.Test.YtblcoicaeeiojaaGreatDoorSOaHdA
import Derived.Lib.Hide
import Derived.Lib.SliceRun
import Derived.Maps.AppendAt
import Derived.Sort.Lot0
import Derived.WalkSmall
set_option linter.all false
namespace Go.Proofs.YtblcoicaeeiojaaGreatDoor
variable{p:Prop}
abbrev AN:=@Go.World.block_lt_of_cell?
abbrev AT:=@Go.IntWalk.i64_in
abbrev AY:=@Go.World.cell?_setCell_other
abbrev Aab:=@Go.Addr.add_zero'
abbrev Aac:=@Go.DataW.trod_int
abbrev Aad:=@Go.IntKind.wrap_u64
abbrev Aae:=@Go.Lib.strCells_length
abbrev Aaf:=@Go.RowKit.Below.heap_alloc
abbrev Aag:=@Go.run_convert_bytes_arg
abbrev Aah:=@Go.run_underlying
abbrev Aai:=@Go.wpList_mapUpdate_own
abbrev Al:=@Go.RowKit.Below.refl
abbrev Bs:=@Go.World.ownsRow.lt
abbrev CG:=@Go.World.ownsRow.alloc
abbrev Cp:=@Go.info_parts
abbrev Cy:=@Go.World.cell?_alloc_new
abbrev DC:=@Go.World.frozen?_setCell
abbrev E7:=@Go.World.cell?_setCell_same
abbrev EN:=@Go.World.frozen?_of_block
abbrev EO:=@Go.below_drewN
abbrev Es:=@Go.cell_of_row
abbrev Et:=@Go.strOfNums_size
abbrev FF:=@Go.bodyPost_ret
abbrev GI:=@Go.Addr.add_lit
abbrev GJ:=@Go.World.grownBy_alloc
abbrev Ge:=@Go.wpOp_step
abbrev I':=@Go.Sort.permIn_trans
abbrev I9:=@Go.Sort.permIn_mono
abbrev IB:=@Go.cell_one_new
abbrev IC:=@Go.heap_alloc_new
abbrev ID:=@Go.wpList_append_own
abbrev I_:=@Go.Sort.permIn_refl
abbrev JR:=@Go.World.cell?_alloc_lt
abbrev KR:=@Go.ByteArray.toList_eq
abbrev MN:=@Go.RowKit.Below.heap_setCell
abbrev MO:=@Go.World.ownsRow.frozenAt
abbrev N8:=@Go.World.ownsRow.kept
abbrev N9:=@Go.World.ownsRow_lit
abbrev PA:=@Go.Result.andThen_ok
abbrev PC:=@Go.Sem.run_bind
abbrev PD:=@Go.Sem.run_pure
abbrev PE:=@Go.World.ownsRow.stored
abbrev PF:=@Go.World.ownsRow_nil
abbrev PG:=@Go.setRow_heap
abbrev PH:=@Go.toList_madeCells_one
abbrev PI:=@Go.wpList_make_full
abbrev R0:=@Go.World.ownsRow.cellAt
abbrev R1:=@Go.World.size_alloc
abbrev R2:=@Go.heap_setCell_same
abbrev R3:=@Go.results_cell_row
abbrev R4:=@Go.setCell_eq_setRow
abbrev R5:=@Go.size_madeCells
abbrev R6:=@Go.wpAny_ready
abbrev R7:=@Go.wpList_append_own_at
abbrev RX:=@Go.AllReady.cons
abbrev RY:=@Go.AllReady.nil
abbrev RZ:=@Go.World.cell?_setCells_out
abbrev U':=@Go.World.cell?_setCells_in
abbrev U8:=@Go.IntKind.wrap_u8
abbrev U9:=@Go.Lib.cell_of_heap
abbrev U:=@Go.Lib.hid
abbrev U_:=@Go.Lib.run_eql_slice_nil
abbrev Va:=@Go.strOfNums_data
def AAW(h:p:=by
 obtain⟨r9,gq,hc,dX⟩:Ag gt:=gv.dec.ae;subst dX;obtain⟨gh,ho,gV,dV⟩:Ag g3:=gv.af.ae;subst dV;obtain⟨g6,gu,gC,dY⟩:Ag gR:=gv.ah.ae;subst dY;have ek:=U bc;obtain⟨⟨cf,b8,b',b9,cd,b6⟩,⟨ci,cb,b7,ca,cc,cg⟩⟩:=bc.box.load;simp only at cf b8 b' b9 cd b6 ci cb b7 ca cc cg;obtain⟨ft,gL⟩:=bc.au 0 JN;obtain⟨fu,gr⟩:=bc.au 1 JN;obtain⟨fA,g9⟩:=bc.au 2 JN;obtain⟨fC,hC⟩:=bc.au 3 JN;obtain⟨fB,gi⟩:=bc.au 4 JN;obtain⟨hB,g_⟩:=bc.au 5 JN;obtain⟨gX,hD⟩:=bc.au 6 JN;obtain⟨gO,gn⟩:=bc.au 7 JN;obtain⟨hj,gI⟩:=bc.au 8 JN;obtain⟨fQ,gK⟩:=bc.au 9 JN;obtain⟨gy,gj⟩:=bc.au 10 JN;obtain⟨gT,g7⟩:=bc.au 11 JN;have g2:Hid (w.heap.size<=rb):=by unfold Hid;omega
 clear ac bc gv gE hg;go_wp2;obtain⟨hu,hp⟩:=Ags eR rb (.slice gz gN gP) (.slice r1 g4 gQ) (.slice r2 gW fs) (.slice r3 gb es) (.slice r4 gm gF) (.slice r5 gM eP) (.slice r6 gx gA) (.slice r7 gS hb) (.slice r8 gB gZ) (.slice r9 gq hc) (.slice gh ho gV) (.slice g6 gu gC) ek.out.au;generalize (World.setCell (World.setCell (World.setCell (World.setCell (World.setCell (World.setCell (World.setCell (World.setCell (World.setCell (World.setCell (World.setCell (World.setCell (eR) ⟨rb,0,none⟩ (.slice gz gN gP)) ⟨rb,1,none⟩ (.slice r1 g4 gQ)) ⟨rb,2,none⟩ (.slice r2 gW fs)) ⟨rb,3,none⟩ (.slice r3 gb es)) ⟨rb,4,none⟩ (.slice r4 gm gF)) ⟨rb,5,none⟩ (.slice r5 gM eP)) ⟨rb,6,none⟩ (.slice r6 gx gA)) ⟨rb,7,none⟩ (.slice r7 gS hb)) ⟨rb,8,none⟩ (.slice r8 gB gZ)) ⟨rb,9,none⟩ (.slice r9 gq hc)) ⟨rb,10,none⟩ (.slice gh ho gV)) ⟨rb,11,none⟩ (.slice g6 gu gC))=hv at hu hp|-;obtain⟨⟨gY,hy,gG,g8,gU,hw⟩,⟨gd,gp,hq,g',hr,g5⟩⟩:=hu.load;simp only at gY hy gG g8 gU hw gd gp hq g' hr g5;refine FF (v:=.agg #[.slice gz gN gP,.slice r1 g4 gQ,.slice r2 gW fs,.slice r3 gb es,.slice r4 gm gF,.slice r5 gM eP,.slice r6 gx gA,.slice r7 gS hb,.slice r8 gB gZ,.slice r9 gq hc,.slice gh ho gV,.slice g6 gu gC]) (by simp[results,results15,go_sem,gY,hy,gG,g8,gU,hw,gd,gp,hq,g',hr,g5]) rfl ?_;exact⟨⟨.slice gz gN gP,.slice r1 g4 gQ,.slice r2 gW fs,.slice r3 gb es,.slice r4 gm gF,.slice r5 gM eP,.slice r6 gx gA,.slice r7 gS hb,.slice r8 gB gZ,.slice r9 gq hc,.slice gh ho gV,.slice g6 gu gC⟩,T',rfl,ek.out.tab hv hp,ek.out.cW,ek.out.cap,ek.out.ab.trans (hp.below ek.out.ab.size (λb _ e=>by have:=g2.out;omega))⟩):p:=h
def Ah7(h:p:=by clear cO;go_enter func96,ntmps96;go_wp2_with fail;refine(Ky c false _ o7).mono ?_;rintro e jD ⟨rfl,rfl⟩;go_wp2_with fail;refine(QV c false _ o8).mono ?_;rintro e w6 ⟨rfl,rfl⟩;go_wp2;go_ret;rw[dx.out];exact⟨rfl,ac.out.ab⟩):p:=h
def ABT(h:p:=by
 have nv:Hid (iE.size=d.size):=by unfold Hid;rw[ow.out.1,n5.out,iY.out]
 go_wp2;go_end0;exact⟨rfl,iE,oo.out,nv.out,⟨oA.out,oE.out⟩,nz.out⟩):p:=h
def Ax(h:p:=by kernel_rfl):p:=h
def An(h:p:=by go_num):p:=h
def AAX(h:p:=by refine wpQuiet_nil ?_;exact Ayu):p:=h
def Hx(h:p:=by go_wp2;go_ret;exact UW):p:=h
def AA4(h:p:=by have jj:(36*(D:Int)).tdiv ((D:Int)+38)=((36*D/(D+38):Nat):Int):=rfl;have nj:36*D/(D+38)<=36*D:=Je _ _;obtain⟨E,cr⟩:∃E,36*D/(D+38)=E:=⟨_,rfl⟩;rw[cr]at jj fR nj;clear cr co;go_wp2;go_ret;exact⟨XP (by rw[<-fR.out];omega),rfl⟩):p:=h
def YM(h:p:=by refine wpQuiet_nil ?_;intro _ e7;obtain⟨pq,e6⟩:=e7;subst e6;have HEq:=U (fI.out.step (Dx w1 pq));generalize Cf w1 pq=kF at HEq|-;go_wp2;go_ret;rw[fi.out];exact⟨rfl,HEq.out.env.ab⟩):p:=h
def N0(h:p:=by
 go_wp2
 all_goals
  go_ret;exact⟨Lo (by rw[eq.out];first|(simp;done)|(simp;omega)),rfl⟩):p:=h
def AhA(h:p:=by rintro e lc ⟨rfl,ad⟩;have b1:=U (ac.out.step ad);clear ad;go_wp2;go_ret;exact⟨rfl,b1.out.ab⟩):p:=h
def UH(h:p:=by go_wp2;go_ret;exact⟨rfl,(Al w.heap.size w).alloc (Ac _) _⟩):p:=h
def Aws(h:p:=by clear a';go_enter func53,ntmps53;go_wp2_with fail;refine(QW c false _ df).mono ?_;rintro e jD ⟨rfl,rfl⟩;go_wp2_with fail;refine(Ky c false _ eF).mono ?_;rintro e jD ⟨rfl,rfl⟩;go_wp2_with fail;refine(Mx x.a5 T.ag c z _ ac.out.tab.ag dm).mono ?_;rintro e w1 ⟨rfl,ad⟩;exact Ay8):p:=h
def Zf(h:p:=by rw[eE]at eY|-;clear eE;go_enter func45,ntmps45;go_wp2_with (go_at_call 71;refine(Afz _ _).mono ?_;rintro e w' ⟨rfl,rfl⟩);go_ret;exact⟨rfl,(Al _ _).alloc (Ac _) _⟩):p:=h
def ABd(h:p:=by rintro e w3 ⟨rfl,j1,db⟩;obtain⟨_,_,eA,jS⟩:=(ni.out.grown db (by intro b ff e;cases e;omega)) q lC;cases eA;rw[b0,BY]at jS;have iV:=U j1;have lB:=U (A5 i9.out db);clear j1 db b0;go_wp2;go_ret;exact⟨y,_,rfl,bb.out,iV.out,lB.out⟩):p:=h
def UQ(h:p:=by go_wp2;go_ret2;exact⟨rfl,bc.out.ab⟩):p:=h
def Zr(h:p:=by go_ret;exact U2):p:=h
def AwX(h:p:=by go_wp2;go_ret;rw[fi.out];exact⟨rfl,HEq.out.env.ab⟩):p:=h
def Ah4(h:p:=by rintro e w1 ⟨rfl,ad⟩;exact Ay8):p:=h
def ABm(h:p:=by refine wpQuiet_nil ?_;intro _ e7;obtain⟨pq,e6⟩:=e7;subst e6;have HEq:=U (iR.out.step (Dx eC pq));generalize Cf eC pq=kF at HEq|-;go_wp2;go_ret;exact⟨Lo Ay0,HEq.out.env.ab⟩):p:=h
def Aiq(h:p:=by go_wp2_with fail;refine(Qa _ (dm.out.below ac.out.ab)).mono ?_;rintro e da ⟨rfl,ad⟩;have fO:=U (ac.out.step ad).ab;clear ad;exact AiZ):p:=h
def AxO(h:p:=by
 obtain rfl:R=true:=by rw[bs.out];decide
 go_wp2;go_ret;exact⟨rfl,iR.out.ab⟩):p:=h
def Ax5(h:p:=by go_wp2;go_ret;exact⟨rfl,iR.out.ab⟩):p:=h
def Ayz(h:p:=by
 rintro e w1 ⟨i,rfl,a',be,ad⟩;have b1:=U ad;clear ad;cases B with
 | true =>
  have eN:decide (0<=i)=true:=At (a' rfl);exact Azl
 | false =>
  have eN:decide (0<=i)=false:=Ai (by have:=be rfl;omega);exact Azl):p:=h
def UV(h:p:=by go_wp2;go_ret;exact⟨by rw[b1.out];rfl,rfl⟩):p:=h
def RN(h:p:=by go_wp2;go_ret;exact⟨RP,ac.out.ab⟩):p:=h
def ABV(h:p:=by
 have lQ:(u !=4)=true:=by simp[eL]
 have fq:Hid (r5 T=false):=eV.out (by
  rw[D4 (Hu T) y (j+1) (by rw[fG.out,lU.out];simp[a',eL]),Ib])
 clear a' eL;go_wp2;go_ret;rw[fq.out];exact U2):p:=h
def AiT(h:p:=by have fq:Hid (r6 T=false):=o3.out (D4 _ y (j+1) (by rw[fG.out];rfl));exact AiO):p:=h
def ML(h:p:=by go_wp2;go_ret;exact⟨rfl,b1.out⟩):p:=h
def ZX(h:p:=by exact⟨rfl,(Al _ _).alloc (Ac _) _⟩):p:=h
def AzJ(h:p:=by go_wp2;go_ret;exact⟨y,_,rfl,bb.out,iV.out,lB.out⟩):p:=h
def AzT(h:p:=by have b0:=kr.out;rw[N a']at b0;injection b0 with bt bd;injection bd with bd ct;subst bt;subst bd;subst ct;clear kr a';go_wp2;go_ret3;exact Le.nil _ _ bc.out.ab):p:=h
def EL(h:p:=by simp[Cy]):p:=h
def Z6(h:p:=by go_wp2;go_ret;rw[fq.out];exact⟨rfl,dL.out.ab⟩):p:=h
def ACk(h:p:=by
 obtain rfl:k=xs.length:=by omega
 have c6:Hid (B=true):=by
  have:=ep.out;rw[PP,cF.out,PP]at this;unfold Hid;rw[<-ef.out];simp[this]
 go_wp2;go_ret;exact ZU):p:=h
def Z7(h:p:=by rintro e w2 ⟨rfl,dK⟩;go_wp2;go_ret2;exact⟨ZW,dK⟩):p:=h
def Ajq(h:p:=by go_ret;rw[fq.out];exact U2):p:=h
def RT(h:p:=by go_wp2;go_ret3;exact Le.nil _ _ ac.out.ab):p:=h
def Avj(h:p:=by rintro e w2 ⟨rfl,dK⟩;have cx:=U (ad.out.trans (dK.mono ad.out.size));clear dK;go_wp2;go_ret2;exact⟨a,by rw[bv.out];rfl,by rw[cF.out];omega,by rw[bv.out];simp,cx.out⟩):p:=h
def Rs(h:p:=by go_ret2;exact⟨ZW,Al _ _⟩):p:=h
def Ahg(h:p:=by obtain⟨z,cD,_⟩:=Aac underlying3 be;injection cD with cD;exact⟨z,by rw[<-cD];exact a'⟩):p:=h
def Avl(h:p:=by
 have ev:(E==0)=false:=by simp[bl]
 have mW:Hid (B=false):=by unfold Hid;rw[<-ef.out];exact Aof (by rw[cr.out];exact bl)
 clear bl;go_wp2;go_ret;exact⟨by rw[mW.out];rfl,ac.out.ab⟩):p:=h
def Avo(h:p:=by obtain⟨a',be,cD,eL,eB,ez,ey⟩:=h;have mO:=ad.block g ey;exact⟨(ad.cell ey).trans a',(ad.cell ey).trans be,(ad.cell ey).trans cD,(EN mO).trans eL,(EN mO).trans eB,(EN mO).trans ez,Ci ey ad.size⟩):p:=h
def Avp(h:p:=by obtain⟨jT,hE,rfl,jV⟩:=cm.out.ap;have mV:=U (cm.out.mono ll.out);clear jV;rw[lk.out]at mV|-;go_wp2;go_ret2;exact⟨_,rfl,mV.out,fO.out⟩):p:=h
def AAY(h:p:=by obtain⟨bt,bd,ct⟩:=jo.out;subst bt;subst bd;subst ct;go_wp2;go_ret3;rw[<-na]at lr;exact⟨_,rfl,by rw[<-na];exact lr.out,bc.out.ab⟩):p:=h
def YA(h:p:=by go_wp2;go_ret;exact⟨rfl,((ac.out.step dK).step eS).ab⟩):p:=h
def Ahi(h:p:=by rw[oF];exact I_ fH c b):p:=h
def YB(h:p:=by rw[np];exact I_ d_ a c):p:=h
def YC(h:p:=by rw[nF];exact I_ d a b):p:=h
def YE(h:p:=by go_wp2;go_ret;exact⟨by rw[ek.out];rfl,ac.out.ab⟩):p:=h
def AAZ(h:p:=by go_wp2;go_ret;rw[bs.out];exact⟨rfl,k7.out.ab⟩):p:=h
def Ahl(h:p:=by clear df;go_enter func271,ntmps271;go_wp2;go_ret;exact⟨Aj1 cF.out,rfl⟩):p:=h
def AA0(h:p:=by obtain⟨bt,bd,ct⟩:=jo.out;subst bt;subst bd;subst ct;clear eI;go_wp2;go_ret3;exact⟨_,rfl,Ak.nil _ _,dL.out.ab⟩):p:=h
def YH(h:p:=by go_ret2;rw[bs.out.1 dO];exact⟨rfl,hG.out⟩):p:=h
def Avw(h:p:=by rw[bt]at a';rw[bd]at be;exact⟨h,((Am.new h).step ((Al _ _).alloc (Ac _) _)).step ((Al _ _).alloc (Ac _) _),(Aaf _ _ _ (by rw[bd];omega)).trans a',be⟩):p:=h
def AvA(h:p:=by clear cI cl;go_wp2_with (go_at_call 74;refine(OF _ _).mono ?_;rintro e w' ⟨rfl,rfl⟩);go_ret2;exact ZU):p:=h
def YI(h:p:=by go_wp2;go_ret;exact⟨by rw[iN.out];rfl,ad.out⟩):p:=h
def YK(h:p:=by unfold Oper.wp execOp;simp only[cq];go_simp;exact h):p:=h
def AvC(h:p:=by unfold Oper.wp execOp;simp only[cq,resolve,invoke,builtin,PC,PD,PA,Oc,BH,Eg,b2,b3,Gh,ga];exact h v w ZV (AtR _ _)):p:=h
def AvD(h:p:=by unfold Oper.wp execOp;simp only[cq,resolve,invoke,builtin,PC,PD,PA,Oc,BH,Eg,b2,b3,lw];exact h fa w' (by unfold Ak;simpa using be) cD eB):p:=h
def AvE(h:p:=by have ee:=c.lt;have ld:A6 da B v L:=b5.owns cq (λk ba e=>Ai3);exact AzB):p:=h
def AA5(h:p:=by obtain⟨bt,bd,ct⟩:=jo.out;subst bt;subst bd;subst ct;go_wp2;go_ret3;exact⟨_,rfl,Ak.nil _ _,bc.out.ab⟩):p:=h
def LR(h:p:=by rw[U8];omega):p:=h
def AvF(h:p:=by clear fT f8 dM;go_wp2;go_ret;rw[bs.out];exact⟨rfl,(eT.out.step fP.out).ab⟩):p:=h
def NZ(h:p:=by first|rfl|go_num):p:=h
def AvI(h:p:=by have bs:=U (eV.out (.inl (by rw[fb.out];simp;omega)));go_wp2;go_ret;rw[bs.out];exact⟨rfl,eT.out⟩):p:=h
def Ahn(h:p:=by go_wp2;go_ret;rw[bs.out];exact⟨rfl,dL.out.ab⟩):p:=h
def AA6(h:p:=by
 have lr:Hid (Ak wr w.heap.size u3 X):=by rw[<-ac.out];exact cq
 go_wp2;go_ret;exact⟨_,rfl,lr.out,dN.out⟩):p:=h
def AvN(h:p:=by rintro e w1 ⟨i,rfl,dI,cj,ad⟩;have bs:=U cj;have b1:=U ad;clear cj ad;go_wp2;go_ret2;exact⟨i,rfl,dI,bs.out,b1.out⟩):p:=h
def AvR(h:p:=by go_ret;exact⟨Lo (by rw[eq.out];first|(simp;done)|(simp;omega)|(cases S<;>cases c7<;>simp_all<;>omega)),rfl⟩):p:=h
def AvS(h:p:=by have eT:=U (fI.out.step cC.out);clear cI;go_wp2;go_ret;rw[dm.out];exact⟨rfl,eT.out.ab⟩):p:=h
def Ahr(h:p:=by go_wp2;go_ret2;exact DL.nil 12 cx.out):p:=h
def YR(h:p:=by go_ret2;rw[ac.out];exact⟨rfl,dN⟩):p:=h
def YV(h:p:=by go_wp2;go_ret;exact⟨rfl,cx.out⟩):p:=h
def Ahw(h:p:=by go_wp2;go_ret;rw[dm.out];exact⟨rfl,ad.out⟩):p:=h
def Ahx(h:p:=by go_wp2;go_ret;exact⟨_,rfl,i6.out,jW.out,jX.out⟩):p:=h
def Ahy(h:p:=by unfold Oper.wp execOp;simp only[cq,b3];go_simp;exact h):p:=h
def Av1(h:p:=by go_wp2;go_ret;rw[bs.out];exact⟨rfl,(jF.out.step eU.out).ab⟩):p:=h
def RB(h:p:=by rw[<-c',Et];rfl):p:=h
def Av2(h:p:=by go_wp2;go_ret2;rw[ek.out,fx.out];exact⟨_,rfl,Ak.nil _ _,bc.out.ab⟩):p:=h
def Av4(h:p:=by go_wp2;go_end0;exact⟨rfl,ew,fW.out,by rw[lN.out,iY.out],⟨jA.out,j3.out⟩,jB.out⟩):p:=h
def Av5(h:p:=by have a':=eW.lo;have be:=AN _ _ ac.out.box.load.1.1;simp only at be;unfold Hid;omega):p:=h
def Av6(h:p:=by obtain rfl:=kw.out;first|with_reducible exact AgN|with_reducible rfl|go_num):p:=h
def Awc(h:p:=by rintro e w2 ⟨rfl,dK⟩;go_wp2;go_ret2;exact⟨by rw[<-c6.out];rfl,dK⟩):p:=h
def Awg(h:p:=by go_wp2;go_ret3;exact⟨rfl,ac.out.ab.trans (dN.out.mono ac.out.ab.size)⟩):p:=h
def Awj(h:p:=by go_wp2;go_ret;exact⟨_,by rw[mt.out];rfl,eh.out,ac.out,k3.out⟩):p:=h
def Awo(h:p:=by go_wp2;go_ret2;rw[ek.out,fx.out];exact⟨_,rfl,Ak.nil _ _,eT.out⟩):p:=h
def Awu(h:p:=by go_wp2;go_ret;rw[bs.out];exact U2):p:=h
def Awy(h:p:=by go_wp2;go_ret;exact⟨by rw[<-ia.out];rfl,bc.out.ab⟩):p:=h
def Awz(h:p:=by have a':=fy.size;have be:=fh.out;rw[R1]at a';unfold Hid;omega):p:=h
def AwE(h:p:=by
 go_wp2
 all_goals
  go_ret;exact⟨XP (by rw[d8.out];omega),rfl⟩):p:=h
def AwJ(h:p:=by go_wp2;go_ret3;rw[ac.out];exact⟨_,rfl,Ak.nil _ _,Al _ _⟩):p:=h
def AhT(h:p:=by go_ret2;exact DL.nil 12 eA.out):p:=h
def AwO(h:p:=by have a':=iG.out.size;have be:=fh.out;rw[R1];omega):p:=h
def AwP(h:p:=by go_wp2;go_ret;rw[dm.out];exact⟨rfl,eU.out⟩):p:=h
def AwS(h:p:=by obtain⟨_,_,_,_,_,_,_,eL,_⟩:=b2;exact AN w _ eL):p:=h
def Aw2(h:p:=by go_wp2;go_ret2;rw[oI.out];exact⟨rfl,dN⟩):p:=h
def Aw3(h:p:=by go_wp2;go_ret;exact⟨by rw[kT.out];rfl,rfl⟩):p:=h
def ABk(h:p:=by rw[<-b0];rcases b5 with rfl|rfl|rfl|rfl|rfl|rfl<;>simp[Cy]):p:=h
def Aw4(h:p:=by go_wp2;go_ret2;exact⟨rfl,cj.out.ab⟩):p:=h
def Ah8(h:p:=by rw[ac.out];exact UW):p:=h
def Axb(h:p:=by go_ret;rw[bs.out];exact⟨rfl,cx.out⟩):p:=h
def Axm(h:p:=by go_wp2;go_ret;exact⟨by rw[b1.out];rfl,Al _ _⟩):p:=h
def Axo(h:p:=by go_wp2;go_ret;rw[c6.out];exact UW):p:=h
def Axq(h:p:=by go_wp2;go_ret;rw[bv.out];exact UW):p:=h
def Axv(h:p:=by go_wp2;go_ret2;exact DL.nil 12 f'.out):p:=h
def Axw(h:p:=by go_wp2;go_ret2;exact P5.nil _ _ _ _ ac.out.ab):p:=h
def RH(h:p:=by generalize gE:w.heap.size+1=rb at ac|-;generalize hg:w.heap.size+1+1=g at ac|-;obtain⟨⟨hk,eD,et,gD,gH,gf,gJ,gg,ha,gt,g3,gR⟩,T',bc⟩:=ac.out;have gv:=bc.tab eR (Ad.refl _ _);obtain⟨gz,gN,gP,dS⟩:Ag hk:=gv.cat.ae;subst dS;obtain⟨r1,g4,gQ,dQ⟩:Ag eD:=gv.ai.ae;subst dQ;obtain⟨r2,gW,fs,dU⟩:Ag et:=gv.al.ae;subst dU;obtain⟨r3,gb,es,dZ⟩:Ag gD:=gv.ak.ae;subst dZ;obtain⟨r4,gm,gF,dW⟩:Ag gH:=gv.aj.ae;subst dW;obtain⟨r5,gM,eP,dR⟩:Ag gf:=gv.ag.ae;subst dR;obtain⟨r6,gx,gA,dP⟩:Ag gJ:=gv.an.ae;subst dP;obtain⟨r7,gS,hb,d7⟩:Ag gg:=gv.ext.ae;subst d7;obtain⟨r8,gB,gZ,dT⟩:Ag ha:=gv.map.ae;subst dT;exact AAW):p:=h
def Aip(h:p:=by have n5:Hid (fH.size=N):=Y6;have of:Hid (DT l fH):=oq.out.perm nG.out ZZ;have nK:Hid (DS l c e b fH):=op.out.congr nG.out.1 (λk ba=>nG.out.2.1 k (.inr ba));go_wp2_with fail;refine(lG.out c e b fH _ O n5 (A5 jv.out n4.out) of.out nR.out nK.out ns nr).mono ?_;rintro i_ w3 ⟨rfl,iE,nZ,od,⟨oe,nu⟩,n3⟩;have oo:=U nZ;have ow:Hid (PermIn c b fH iE):=oe;have nX:Hid (SortedIn (AK l) c b iE):=nu;have nz:=U (A5 n4.out n3);clear nZ od oe nu n3;exact Ai_):p:=h
def AxE(h:p:=by have n7:=nC.out d_ oB.out og.out;obtain⟨ol,nS,ny⟩:=n7;have nA:=U ol;have op:=U nS;have nP:=U ny;clear ol nS ny;have oq:Hid (DT l d_):=bv.out.perm nJ.out LS;have nW:Hid (d_.size=N):=RE;go_wp2_with fail;refine(lG.out a r c d_ _ O nW (A5 jv.out ou.out) oq.out nQ.out nA.out n6 nx).mono ?_;rintro i_ w2 ⟨rfl,fH,n',oh,⟨on,nB⟩,nY⟩;have nR:=U n';have nG:Hid (PermIn a c d_ fH):=on;have nI:Hid (SortedIn (AK l) a c fH):=nB;have n4:=U (A5 ou.out nY);clear n' oh on nB nY;have n5:Hid (fH.size=N):=Y6;have of:Hid (DT l fH):=oq.out.perm nG.out ZZ;have nK:Hid (DS l c e b fH):=op.out.congr nG.out.1 (λk ba=>nG.out.2.1 k (.inr ba));have nX:Hid (SortedIn (AK l) c b fH):=nK.out.idle b9;obtain⟨iE,oF⟩:∃iE,iE=fH:=⟨fH,rfl⟩;have ow:Hid (PermIn c b fH iE):=Ahi;rw[<-oF]at nX;have oo:Hid (AI w2 g cap iE):=Ahs;have nz:=n4;clear oF;exact Ai_):p:=h
def AxG(h:p:=by have nz:=n4;clear oF;exact Ai_):p:=h
def Air(h:p:=by have im:decide (c<=32)=false:=Ae;have il:c<127:=O;have ik:32<c:=O;have j8:(c==45)=false:=Ae;have j9:(c==46)=false:=Ae;have o9:(c==127)=false:=Ae;clear cO;go_enter func100,ntmps100;exact U0):p:=h
def ABs(h:p:=by have d':decide (97<=c)=false:=Ae;have bt:decide (65<=c)=false:=Ae;have bd:0<=c:=O;have ct:c<=122:=O;have eZ:c<=90:=O;have fl:c<=127:=O;clear cO;go_enter func190,ntmps190;exact U0):p:=h
def ABt(h:p:=by
 have ly:0<k:=by omega
 have dx:Hid (A7 (L.take (k+1))=(Y++[46])++x):=by
  unfold Hid;rw[oY.out,WG,V (by
   intro e
   have a':(L.take k).length=k:=by rw[GL,bx.out];omega
   rw[e]at a'
   simp at a';omega),c'.out]
  exact J
 have eu:Hid (Y.length+1+x.length<=1099511627776):=ABh;clear bl;go_wp2_with (at_builtin;first
  | (refine De (.tmp 15) (.tmp 16) rfl rfl w.heap.size _ Y (by rfl) (CG cq.out _) (some ⟨wr.heap.size, 0, none⟩) 1 1 [46] rfl (by rfl) (Ac_ wr 46) AvW Awx ?_
     intro v4 eC iC e8
     have ke:=U iC
     have hN:Hid (Below w.heap.size w eC):=(dN.out.alloc fb.out _).grown e8 MM (λj ed=>(Bs cq.out j ed).1)
     have oR:=U (oO.out.below hN.out)
     have oQ:=U hN.out.size
     clear iC e8)
  | (refine De (.tmp 18) (.tmp 19) rfl rfl w.heap.size v4 (Y ++ [46]) (by rfl) ke.out q oT c x ms.out (by rfl) oR.out AvW oQ.out ?_
     intro v5 jD ie oX
     have lr:=U ie
     have oU:Hid (Below w.heap.size w jD):=hN.out.grown oX oQ.out (λj ed=>(Bs ke.out j ed).1)
     clear ie oX))
 go_roundw
 case rel=>exact⟨k+1,(Y++[46])++x,O,An,dx,lr,oU⟩
 case measure=>simp[intOf];omega):p:=h
def Df(h:p:=by go_wp2;go_ret;exact JO):p:=h
def Ais(h:p:=by have fl:c<=127:=O;clear cO;go_enter func190,ntmps190;exact U0):p:=h
def Ait(h:p:=by
 have hN:Hid (Below f5.heap.size f5 eC):=L9 kQ.out jm.out (Ac _) e8;have ke:=U iC;clear iC e8 eJ;go_wp2;go_roundw
 case rel=>exact⟨k+1,_,_,O,An,rfl,f4,ke,hN⟩
 case measure=>simp[intOf];omega):p:=h
def ABu(h:p:=by
 cases pd with
 | false =>
  obtain rfl:K=0:=ABe;exact Ajm
 | true =>
  obtain⟨iK,pg⟩:∃B,Hid (EC T ao [3]=B):=⟨_,rfl⟩;have iU:=U (CQ kv #[.int .i64 3] [3] 3 rfl);have fU:=U (ac.out.step ((Al kv.heap.size kv).alloc (Ac _) (.cells #[.int .i64 3] 3)));obtain⟨⟨cf,b8,b',b9,cd,b6⟩,⟨ci,cb,b7,ca,cc,cg⟩⟩:=ac.out.box.load;go_wp2_with fail;refine(OW x T _ n cap ao _ 1 1 [3] iK _ fU.out.tab j0.out (dG.out.below fU.out.ab) bb cl iU.out rfl O pg).mono ?_;rintro e kv ⟨rfl,ad⟩;replace ac:=U (fU.out.step ad);clear ad iU fU;clear cf b8 b' b9 cd b6 ci cb b7 ca cc cg;cases iK with
  | true =>
   obtain rfl:K=4:=ABr;exact Ajm
  | false =>
   obtain rfl:K=0:=ABf;exact Ajm):p:=h
def ABv(h:p:=by have d':decide (97<=c)=false:=Ae;have bt:decide (65<=c)=false:=Ae;have bd:decide (48<=c)=false:=Ae;have ct:0<=c:=O;have eZ:c<=122:=O;have fl:c<=90:=O;have hK:c<=57:=O;have im:decide (c<32)=false:=Ae;have il:c<127:=O;have ik:32<c:=O;exact Ajg):p:=h
def AxH(h:p:=by have ke:Hid (Ak eC (w.heap.size+1) v4 (AF T (ao.take (k+1)))):=Avt;have iR:Hid (Am w x T eC):=ji.out.aI eh.out jY.out e8;have nf:Hid (w.heap.size+1<=eC.heap.size):=Af nd e8.size;clear iC e8 nd iM;exact AAm):p:=h
def AxI(h:p:=by
 obtain rfl:k=n:=by omega
 have kk:=cm.out;rw[AO (BW bb.out)]at kk;obtain⟨ng,m9,en,m_⟩:=kk.ap;have lr:=U (Iv kk (show w.heap.size<=w.heap.size+1 by omega));have km:Hid ((AF T ao).length<=18*4096):=by
  have:=W8 bv.out i5.out ao.length;rw[AO (Ac _)]at this;have:=bb.out;exact Hj
 have nc:=U (Apo co.out (Aks (λj ed=>cA.out j (by rw[<-bb.out];exact ed))));obtain⟨nb,na⟩:∃nb,(AF T ao).length=nb:=⟨_,rfl⟩;rw[na]at en nc km;subst en;have f9:=km.out;clear kk m_ cm cA;by_cases fc:4096<nb
 ·have d_:decide ((4096:Int)<(nb:Int))=true:=At O;have jo:Hid (L=[]/\K=0/\E=7):=by
   have:=c8.out;rw[nc.out,N fc]at this;exact YX
  exact AA5
 ·have d_:decide ((4096:Int)<(nb:Int))=false:=Ai O;have jo:Hid (L=AF T ao/\K=0/\E=0):=by
   have:=c8.out;rw[nc.out,V fc]at this;exact YX
  exact AAY):p:=h
def Aiu(h:p:=by have im:decide (c<32)=false:=Ae;have il:c<127:=O;have ik:32<c:=O;exact Ajg):p:=h
def UU(h:p:=by go_wp2_with fail;refine(Qa _ (dm.out.below ac.out.ab)).mono ?_;rintro e da ⟨rfl,ad⟩;exact AAM):p:=h
def ABw(h:p:=by
 have jj:(D:Int).tdiv 35=((D/35:Nat):Int):=rfl;have fR:Hid (Il (D/35) (K+36)=B):=AA7;obtain⟨E,cr⟩:∃E,D/35=E:=⟨_,rfl⟩;rw[cr]at jj fR;have nk:E+36<=D:=O;clear cr co;go_wp2;go_roundw
 case rel=>exact⟨E,K+36,rfl,An,O,fR,Dr⟩
 case measure=>simp[intOf];omega):p:=h
def AxJ(h:p:=by clear cO;go_enter func100,ntmps100;exact U0):p:=h
def ABz(h:p:=by
 cases c7 with
 | true =>
  have dm:=fh.out (.inr rfl);have ia:=U dm;clear dm;go_enter func190,ntmps190;exact Az2
 | false =>
  have kf:=U (bv.out rfl rfl);go_enter func190,ntmps190;go_wp2_with fail;refine(Ky c false _ eF).mono ?_;rintro e jD ⟨rfl,rfl⟩;go_wp2_with fail;refine(QV c false _ fJ).mono ?_;rintro e w6 ⟨rfl,rfl⟩;go_wp2_with fail;refine(Mx x.a4 T.aj c z _ ac.out.tab.aj kf.out).mono ?_;exact AhA):p:=h
def ABA(h:p:=by
 cases c7 with
 | true =>
  have dm:=fh.out (.inr rfl);have ia:=U dm;clear dm;go_enter func96,ntmps96;exact Az2
 | false =>
  have kf:=U (bv.out rfl rfl);go_enter func96,ntmps96;go_wp2_with fail;refine(Ky c false _ eF).mono ?_;rintro e jD ⟨rfl,rfl⟩;go_wp2_with fail;refine(QV c false _ fJ).mono ?_;rintro e w6 ⟨rfl,rfl⟩;go_wp2_with fail;refine(Mx x.a0 T.cat c z _ ac.out.tab.cat kf.out).mono ?_;exact AhA):p:=h
def Aiv(h:p:=by
 have hN:Hid (Below w1.heap.size w1 eC):=L9 kQ.out jm.out (Ac _) e8;have ke:=U iC;clear iC e8 eJ;go_wp2;go_roundw
 case rel=>
  repeat apply Exists.intro
  exact⟨⟨O,An,f4,ke,hN⟩,trivial⟩
 case measure=>simp[intOf];omega):p:=h
def Aiw(h:p:=by
 have jL:Hid ((ao.take (k+1)).any (DN T)=true):=Ai2;clear i2;obtain⟨io,ip,jK,jO,jN,jJ,jM⟩:=b2.out.az;replace b2:=U (b2.out.aE true);go_wp2;go_roundw
 case rel=>exact⟨k+1,true,b,true,O,An,jL,hM,iK,b2⟩
 case measure=>first|(simp[intOf];done)|(simp[intOf];omega)):p:=h
def Aix(h:p:=by
 have jL:Hid ((ao.take (k+1)).any (DN T)=true):=Ai2;clear i2;obtain⟨io,ip,jK,jO,jN,jJ,jM⟩:=b2.out.az;replace b2:=U (b2.out.aE true);go_wp2;go_roundw
 case rel=>exact⟨k+1,true,b,c,O,An,jL,hM,iK,b2⟩
 case measure=>first|(simp[intOf];done)|(simp[intOf];omega)):p:=h
def I6(h:p:=by go_wp2;go_ret2;exact JO):p:=h
def Aiy(h:p:=by
 have jL:Hid ((ao.take (k+1)).any (DN T)=true):=Ai2;clear i2;obtain⟨io,ip,jK,jO,jN,jJ,jM⟩:=b2.out.az;replace b2:=U (b2.out.aE true);go_wp2;go_roundw
 case rel=>exact⟨k+1,true,true,c,O,An,jL,hM,iK,b2⟩
 case measure=>first|(simp[intOf];done)|(simp[intOf];omega)):p:=h
def AxM(h:p:=by
 have jY:Hid (Ak w3 w.heap.size mq (Do P c c7)):=by
  unfold Hid;exact AA2
 have f':Hid (Below w.heap.size w w3):=cx.out.grown db cx.out.size (λq dO=>Af iG.out.size (iF.out.lt q dO).1);have pu:Hid ((Do P c c7).length=ic+1):=ABi;clear dc db iF cx kW h7 j2 kX;go_wp2;go_roundw
 case rel=>exact⟨m,c7+1,A,kx,c,Do P c c7,false,rfl,rfl,An,rfl,rfl,O,O,AwZ,mp,O,AwZ,O,jY,f',oG⟩
 case measure=>simp[intOf];omega):p:=h
def ABD(h:p:=by
 have dx:Hid (A7 (L.take (k+1))=Y++x):=ABp;have ly:¬0<k:=O;have oZ:decide (0<k)=false:=Ai ly;clear bl;have eu:Hid (Y.length+x.length<=1099511627776):=ABl;go_wp2_with (at_builtin;refine De (.tmp 18) (.tmp 19) rfl rfl w.heap.size _ Y (by rfl) cq.out q oT c x ms.out (by rfl) h8.out (by have:=eu.out;omega) fb.out ?_;intro v5 jD ie oX);have lr:=U ie;have oU:Hid (Below w.heap.size w jD):=dN.out.grown oX fb.out (λj ed=>(Bs cq.out j ed).1);clear ie oX;go_wp2;go_roundw
 case rel=>exact⟨k+1,Y++x,O,An,dx,lr,oU⟩
 case measure=>simp[intOf];omega):p:=h
def AiA(h:p:=by
 obtain rfl:k=0:=by rw[<-ba.out];unfold Gu;rw[V jf,V jg,V O,V jI,V Awr,V ABg]
 clear jf jg jI;clear ba;go_enter func275,ntmps275;exact Hx):p:=h
def ABG(h:p:=by
 have d_:(u !=1)=true:=by simp[a']
 by_cases eL:u=4
 ·have lQ:(u !=4)=false:=by simp[eL]
  have d8:Hid ((y.take (j+1)).all (Hu T)=true):=by unfold Hid;rw[fG.out,lU.out,eL];rfl
  clear a' eL;exact AAl
 ·exact ABV):p:=h
def ABH(h:p:=by have bb:Hid (AA y=true):=Awa;obtain⟨po,pp⟩:=po;clear dO pr;refine(Da g r.tail 12 q _ fG.out O O h8).mono ?_;rintro e w3 ⟨rfl,j1,db⟩;have iV:=U j1;have lB:=U (A5 i9.out db);clear j1 db;exact AzJ):p:=h
def AxT(h:p:=by
 go_wp2_with fail;refine(l_.out _ l8.out).mono ?_;rintro e lc ⟨rfl,ad⟩;have kM:=U (l9.out.below ad);have o_:=U (l7.out.trans (ad.mono l7.out.size));clear ad l8 l_;go_wp2;go_roundw
 case rel=>exact⟨i,_,r6,O,An,rfl,AhB,kM,o_⟩
 case measure=>simp[intOf]):p:=h
def ABI(h:p:=by have h8:=U dO;clear dO;have bb:Hid (AA (DP.getD q 0)=true):=Arq q lC;obtain⟨y,b0⟩:∃y,DP.getD q 0=y:=⟨_,rfl⟩;rw[b0]at bb;refine(Da g r.tail 28 q _ fG.out O O h8).mono ?_;exact ABd):p:=h
def AxU(h:p:=by go_wp2_with fail;refine(Ky c true _ eF).mono ?_;rintro e jD ⟨rfl,rfl⟩;go_wp2;go_ret;rw[ia.out];exact JO):p:=h
def AxV(h:p:=by
 by_cases pk:kR=2
 ·subst pk;exact AxO
 ·have ph:(kR==2)=false:=by simp[pk]
  by_cases pj:kR=3
  ·subst pj;exact AxO
  ·have pn:(kR==3)=false:=by simp[pj]
   obtain rfl:R=false:=by rw[bs.out];simp[pk,pj]
   exact Ax5):p:=h
def AxW(h:p:=by
 have fd:=dN.trans (cC.mono dN.size);have ej:Below w.heap.size w w2:=(fd.alloc fd.size _).grown fy (by have:=fd.size;simp;omega) (λk ba=>(cm.lt k ba).1);have oJ:Ak w2 w.heap.size fa (xs++[c]):=by unfold Ak;simpa using kk
 clear kk fy fd;go_wp2;go_roundw
 case rel=>exact⟨p+(m+1),xs++[c],O,An,ac,oJ,Ae,ej⟩
 case measure=>simp[intOf];omega):p:=h
def AiB(h:p:=by
 go_wp2;go_roundw
 case rel=>exact⟨k+1,O,An,bb,ad.out.alloc ad.out.size _⟩
 case measure=>simp[intOf];omega):p:=h
def RJ(h:p:=by clear ba;go_enter func275,ntmps275;exact Hx):p:=h
def AxX(h:p:=by have ke:Hid (Ak eC (w.heap.size+1) v4 (AF T (ao.take (k+1)))):=Avt;have iR:Hid (Am w x T eC):=dF.out.aI eh.out jY.out e8;have nf:Hid (w.heap.size+1<=eC.heap.size):=Af ko e8.size;clear iC e8 ko iM;exact AAm):p:=h
def AiC(h:p:=by
 go_wp2;go_roundw
 case rel=>exact⟨k+1,O,An,d8,fz⟩
 case measure=>simp[intOf];omega):p:=h
def AxY(h:p:=by have d':((0:Int) !=0)=false:=rfl;have b0:=kr.out;rw[V J]at b0;injection b0 with bt bd;injection bd with bd ct;subst bt;subst bd;subst ct;clear kr;go_wp2;go_ret3;exact⟨_,_,_,rfl,iS.out.ap,ks.out,kt,O,bc.out.ab⟩):p:=h
def I7(h:p:=by go_wp2;exact RQ):p:=h
def ZD(h:p:=by
 go_wp2;go_roundw
 case rel=>exact⟨k+1,T++Y,O,An,rfl,lh.out,lg,cx⟩
 case measure=>simp[intOf];omega):p:=h
def AiD(h:p:=by obtain⟨bt,bd⟩:=eX.out;subst bt;subst bd;clear cr eX jb f9 dJ b3 jE;go_wp2;exact N6):p:=h
def ZE(h:p:=by
 go_wp2;go_roundw
 case rel=>exact⟨k+1,O,An,h8,kq⟩
 case measure=>simp[intOf];omega):p:=h
def ZF(h:p:=by intro fa w1 l2 dy _;go_wp2;go_ret;exact⟨_,rfl,l2,((Al _ _).alloc ef _).grown dy Ae (λk ba=>(cm.lt k ba).1)⟩):p:=h
def ABJ(h:p:=by
 have d_:(u !=1)=false:=by simp[a']
 have d8:Hid ((y.take (j+1)).all (Hu T)=true):=by unfold Hid;rw[fG.out,lU.out,a'];rfl
 clear a';exact AAl):p:=h
def AxZ(h:p:=by rw[V YD,ka]at eG;injection eG with bt bd;subst bt;subst bd;clear ej ka;exact UQ):p:=h
def Pt(h:p:=by go_wp2;exact N6):p:=h
def ABK(h:p:=by
 have fR:Hid (∀j,j<k+1->0<=l.getD j 0/\l.getD j 0<=127):=λj ed=>by
  by_cases e:j=k
  ·subst e;rw[b3];omega
  ·exact cI.out j O
 clear b3 dJ cI;exact AAh):p:=h
def ZG(h:p:=by
 go_wp2;go_round
 case rel=>exact⟨k+1,O,An,d8⟩
 case measure=>simp[intOf];omega):p:=h
def AiE(h:p:=by
 go_wp2;go_roundw
 case rel=>exact⟨k+1,O,An,bb,eU⟩
 case measure=>simp[intOf];omega):p:=h
def H_(h:p:=by rw[AT _ O];omega):p:=h
def AiF(h:p:=by go_enter func246,ntmps246;go_wp2_with (go_at_call 279;refine(Adb _ _).mono ?_;rintro e w' ⟨rfl,rfl⟩);go_ret;rw[cp.out];exact C5):p:=h
def Ax2(h:p:=by have hK:decide (c<=57)=false:=Ae;have im:decide (c<32)=false:=Ae;have il:c<127:=O;have ik:32<c:=O;have j8:(c==127)=false:=Ae;have j9:(c==32)=false:=Ae;clear cO;go_enter func96,ntmps96;exact U0):p:=h
def Ax3(h:p:=by rw[V YD,ka]at eG;injection eG with bt bd;subst bt;subst bd;clear ka;exact UQ):p:=h
def AiG(h:p:=by clear cB;go_enter func246,ntmps246;go_wp2_with (go_at_call 279;refine(ApL _ _).mono ?_;rintro e w' ⟨rfl,rfl⟩);exact RQ):p:=h
def Ax4(h:p:=by
 have ev:(h' !=0)=true:=by simp[bl]
 have b0:=c8.out;unfold Bf at b0;rw[N AhK,fp.out]at b0;injection b0 with bt bd;injection bd with bd ct;subst bt;subst bd;subst ct;obtain rfl:S=ByteArray.empty:=Rw;clear c8 eF bl;go_wp2;go_ret3;exact JO):p:=h
def Ax6(h:p:=by
 have o':Hid (Ak wr w1.heap.size (.slice pb m kO) (Ez fg (k+1))):=by
  unfold Hid;rw[hO.out,lj.out];simpa using cq.out
 go_wp2;go_roundw
 case rel=>exact⟨k+1,O,An,o',ad⟩
 case measure=>simp[intOf];omega):p:=h
def Ax8(h:p:=by have pa:Hid (Fl T ao m=R):=AwL;go_wp2_with fail;refine(Aok T ao L q n ma m R _ (j'.out.below dF.out.ab) df bb er cl pa).mono ?_;rintro e eC ⟨rfl,dM⟩;replace dF:=U (dF.out.step dM);clear dM;go_wp2;exact Zr):p:=h
def Ax9(h:p:=by have j8:(c==45)=false:=Ae;have j9:(c==46)=false:=Ae;have o9:(c==127)=false:=Ae;clear cO;go_enter func100,ntmps100;go_wp2_with fail;refine(Mx x.a3 T.ak c z _ ac.out.tab.ak bv.out).mono ?_;exact AhA):p:=h
def Ax_(h:p:=by
 have ev:(A !=0)=true:=by simp[bl]
 have jo:Hid (L=[]/\K=0/\E=A):=by
  have:=c8.out;rw[Apm Yz,co.out]at this;exact YX
 obtain⟨bt,bd,ct⟩:=jo.out;subst bt;subst bd;subst ct;clear bl;go_wp2;go_ret3;exact RK):p:=h
def Ax'(h:p:=by
 have ev:(A !=0)=true:=by simp[bl]
 have eG:=c8.out;rw[Acs dJ cA.out (by rw[jk.out,co.out];exact bl),jk.out,co.out]at eG;injection eG with bt bd;subst bt;subst bd;clear bl dJ;exact UQ):p:=h
def ABL(h:p:=by
 have fR:Hid (K+36*D/(D+38)=B):=by unfold Hid;rw[<-co.out,AjX h]
 exact AA4):p:=h
def ABN(h:p:=by
 have f':Hid (Below w1.heap.size w1 w3):=L9 ad.out cq.out (Ac _) eg;clear c9 eg iM;go_wp2;go_roundw
 case rel=>exact⟨k+1,O,An,o',f'⟩
 case measure=>simp[intOf];omega):p:=h
def Aya(h:p:=by
 rintro e w2 ⟨rfl,dK⟩;have cx:=U (ad.out.trans (dK.mono ad.out.size));clear dK;go_wp2;go_roundw
 case rel=>exact⟨m+1,b,O,lT,An,rfl,i2,be,cx⟩
 case measure=>simp[intOf];omega):p:=h
def Ayc(h:p:=by
 rintro e w2 ⟨rfl,dK⟩;have cx:=U (ad.out.trans (dK.mono ad.out.size));clear dK;go_wp2;go_roundw
 case rel=>exact⟨a,m,O,O,rfl,rfl,a',hM,cx⟩
 case measure=>simp[intOf];omega):p:=h
def ABO(h:p:=by
 have nf:Hid (w.heap.size+1<=w2.heap.size):=iM;clear eI e' kl iM;go_wp2;go_roundw
 case rel=>exact⟨k+1,O,An,ke,lu,dL,nf⟩
 case measure=>simp[intOf];omega):p:=h
def Ayd(h:p:=by obtain⟨⟨bl,a',be,cD,eL,eB⟩,⟨ez,ey,ea,fm,fN,iJ⟩⟩:=h;have fM:∀i u,w.cell? ⟨g,i,none⟩=some u->(w.setCell ⟨k,o,none⟩ v).cell? ⟨g,i,none⟩=some u:=λi u cB=>(AY _ _ _ _ (by simp[eQ])).trans cB;exact UJ):p:=h
def ZH(h:p:=by rintro e jD ⟨rfl,rfl⟩;exact Ajk):p:=h
def RM(h:p:=by go_wp2;go_ret;exact RI):p:=h
def AiH(h:p:=by
 go_roundw
 case rel=>exact⟨t+1,Y,An,O,jQ,mP,fo,eA⟩
 case measure=>simp[intOf];omega):p:=h
def Ayf(h:p:=by rintro e w2 ⟨rfl,ad⟩;have b1:=U (((Al w.heap.size w).alloc (Ac _) (.cells #[.int .u64 F,.int .u64 L,.int .u64 A] 113)).trans (ad.mono J));clear ad;exact ML):p:=h
def Ayh(h:p:=by obtain⟨a',be,cD,eL,eB,ez,ey⟩:=h;exact⟨E7 _ _ _ a',(AY _ _ _ _ J).trans be,(AY _ _ _ _ J).trans cD,(DC _ _ _ _).trans eL,(DC _ _ _ _).trans eB,(DC _ _ _ _).trans ez,Ahk⟩):p:=h
def Ayi(h:p:=by obtain⟨a',be,cD,eL,eB,ez,ey⟩:=h;exact⟨(AY _ _ _ _ J).trans a',E7 _ _ _ be,(AY _ _ _ _ J).trans cD,(DC _ _ _ _).trans eL,(DC _ _ _ _).trans eB,(DC _ _ _ _).trans ez,Ahk⟩):p:=h
def Ayj(h:p:=by obtain⟨a',be,cD,eL,eB,ez,ey⟩:=h;exact⟨(AY _ _ _ _ J).trans a',(AY _ _ _ _ J).trans be,E7 _ _ _ cD,(DC _ _ _ _).trans eL,(DC _ _ _ _).trans eB,(DC _ _ _ _).trans ez,Ahk⟩):p:=h
def Ayl(h:p:=by
 go_wp2;go_roundw
 case rel=>exact⟨k+1,true,V,O,An,rfl,rfl,f2,hX,li,bc⟩
 case measure=>first|(simp[intOf];done)|(simp[intOf];omega)):p:=h
def Aym(h:p:=by
 go_wp2;go_roundw
 case rel=>exact⟨k+1,O,An,fG,bc⟩
 case measure=>first|(simp[intOf];done)|(simp[intOf];omega)):p:=h
def Ayn(h:p:=by go_wp2_with (go_at_call 134;refine(T_ s a b v m true _ O has ad kY).mono ?_;rintro i_ lM ⟨rfl,rfl⟩);go_ret2;exact DL.nil 8 eA.out):p:=h
def Ayo(h:p:=by
 go_wp2;go_roundw
 case rel=>exact⟨k+1,R,V,O,An,rfl,rfl,f2,hX,li,bc⟩
 case measure=>first|(simp[intOf];done)|(simp[intOf];omega)):p:=h
def Ayp(h:p:=by
 clear bx bl;go_enter func149,ntmps149;go_wp2_with (first
  | (go_at_call 218;refine(Agk _ _ O O).mono ?_;rintro e w' ⟨rfl,rfl⟩))
 exact N6):p:=h
def AiJ(h:p:=by
 go_roundw
 case rel=>exact⟨k+1,O,An,ji,cx⟩
 case measure=>simp[intOf];omega):p:=h
def Ayt(h:p:=by
 obtain rfl:k=n:=by omega
 have fR:Hid (l.any q=false):=by
  have:=kB.out;exact Y9
 go_wp2;go_ret;exact⟨-1,rfl,Zi,λ_=>O,ad.out⟩):p:=h
def Ayu(h:p:=by intro _ e7;obtain⟨pq,e6⟩:=e7;subst e6;have dF:=U (ac.out.step (Dx m4 pq));generalize Cf m4 pq=jP at dF|-;go_wp2_with fail;go_ret;exact U2):p:=h
def Ayv(h:p:=by
 clear fN f2;go_wp2;go_roundw
 case rel=>exact⟨k+1,O,An,by rw[fG.out],bc⟩
 case measure=>first|(simp[intOf];done)|(simp[intOf];omega)):p:=h
def Ayw(h:p:=by
 clear fT f8 dM;go_wp2;go_roundw
 case rel=>exact⟨j+1,O,An,bb,fP⟩
 case measure=>simp[intOf];omega):p:=h
def Ayx(h:p:=by
 go_wp2;go_roundw
 case rel=>exact⟨O,M,k+1,rfl,by rw[eq.out];go_num,O,iV,lA,eV,kS⟩
 case measure=>simp[intOf];omega):p:=h
def AyA(h:p:=by
 go_wp2;go_roundw
 case rel=>exact⟨k+1,O,An,d8,U (cC.out.trans (dM.out.mono cC.out.size))⟩
 case measure=>simp[intOf];omega):p:=h
def ZK(h:p:=by go_wp2;go_ret3;exact JO):p:=h
def AyC(h:p:=by
 go_wp2;go_roundw
 case rel=>exact⟨i+1,fF,An,O,.inl O,jz.out,mr,j3,Em fy.out _⟩
 case measure=>simp[intOf];omega):p:=h
def ABQ(h:p:=by
 obtain rfl:k=n:=by omega
 have ac:Hid (Y=X):=by
  have:=c'.out;rw[AO H6]at this;unfold Hid;rw[<-this,eE.out]
 exact AA6):p:=h
def AiL(h:p:=by go_enter func254,ntmps254;go_wp2;go_ret;rw[b1.out];exact C5):p:=h
def AiM(h:p:=by go_enter func282,ntmps282;go_wp2;go_ret;rw[cp.out];exact ZX):p:=h
def AyD(h:p:=by
 have jo:Hid (L=[]/\K=k/\E=16):=by
  have:=c8.out;rw[Apn co.out (lq.out eI)]at this;exact YX
 exact AA0):p:=h
def AyE(h:p:=by
 have iE:(z !=3)=true:=by simp[e']
 have fq:Hid (r5 T=false):=eV.out (by rw[b5.out,Ai e'];rfl);clear e';exact Z6):p:=h
def ZM(h:p:=by go_wp2;go_ret;rw[bs.out];exact C5):p:=h
def AyH(h:p:=by
 have mc:(z==9)=true:=by simp[fm]
 obtain rfl:R=true:=by rw[kP.out,At fm];rfl
 clear fm;go_wp2;exact Zr):p:=h
def AyI(h:p:=by
 go_wp2;go_roundw
 case rel=>exact⟨k+1,some k,rfl,An,O,c6,Dr⟩
 case measure=>simp[intOf];omega):p:=h
def AyJ(h:p:=by go_wp2_with (go_at_call 294;refine(Atg _ _).mono ?_;rintro e w' ⟨rfl,rfl⟩);go_ret2;exact⟨a,KK,rfl⟩):p:=h
def ABR(h:p:=by
 have b1:Hid (B=false):=by unfold Hid;rw[<-ef.out];exact Aa8 dJ (by rw[b3];exact .inl h)
 clear b3 dJ cI ef;exact UV):p:=h
def ABS(h:p:=by
 have b1:Hid (B=false):=by unfold Hid;rw[<-ef.out];exact Aa8 dJ (by rw[b3];exact .inr be)
 clear b3 dJ cI ef;exact UV):p:=h
def AyM(h:p:=by have bv:=U (jc O);clear jc fL ec;go_wp2;go_ret2;exact⟨a,KK,LP,by rw[bv.out];simp,ad.out⟩):p:=h
def ZN(h:p:=by go_wp2;go_ret3;exact RK):p:=h
def AyN(h:p:=by replace ac:=U (ac.out.step ad);clear ad k;go_wp2;go_ret;exact⟨Ia,ac.out.ab⟩):p:=h
def AyP(h:p:=by
 have ev:(E !=0)=true:=by simp[bl]
 have eu:Hid (L=[]):=ABc;clear bl;go_wp2;go_ret2;rw[eu.out];exact RK):p:=h
def ZO(h:p:=by go_wp2;exact Zr):p:=h
def AiO(h:p:=by go_wp2;go_ret;rw[fq.out];exact⟨rfl,hS.out.ab⟩):p:=h
def AyS(h:p:=by rintro e w1 ⟨rfl,cC⟩;have b1:=U cC;clear cC;go_wp2;go_ret;rw[bs.out];exact U4):p:=h
def ZS(h:p:=by go_enter func171,ntmps171;exact UH):p:=h
def AyU(h:p:=by go_wp2;go_ret;rw[eh.out];refine⟨_,1,1,rfl,rfl,O,?_,ac.out.ab.alloc J _⟩;exact AA9):p:=h
def AyV(h:p:=by injection eG with bt bd;subst bt;subst bd;clear dH;exact UQ):p:=h
def AyW(h:p:=by have a':=R2 w b 0 #[x,y,z] t u h;have be:=R2 _ b 1 _ t v a';have cD:=R2 _ b 2 _ t q be;exact MH):p:=h
def AiS(h:p:=by go_wp2;go_ret;rw[lP.out];exact U4):p:=h
def AyY(h:p:=by
 go_roundw
 case rel=>exact⟨k+1,O,An,bb,cx⟩
 case measure=>simp[intOf];omega):p:=h
def AyZ(h:p:=by rintro e w1 ⟨rfl,ad⟩;have b1:=U ad;clear ad;go_wp2;go_ret;exact⟨UG,b1.out⟩):p:=h
def AiU(h:p:=by go_wp2;go_ret2;rw[ek.out,fx.out];exact RK):p:=h
def AiW(h:p:=by have:k=0:=YW;subst this;exact⟨_,_,rfl,EL⟩):p:=h
def Ay1(h:p:=by rintro e w1 ⟨rfl,cC⟩;have iO:=U cC;clear cC;go_wp2;go_ret;exact⟨UG,iO.out⟩):p:=h
def ABX(h:p:=by
 obtain rfl:k=n:=by omega
 have b1:Hid (B=true):=AA_;clear cI ef;exact UV):p:=h
def Ay5(h:p:=by
 obtain rfl:B=false:=by rw[<-eT.out];split<;>simp
 exact Z3):p:=h
def Ay8(h:p:=by have b1:=U (ac.out.step ad);clear ad k;go_wp2;go_ret;exact⟨rfl,b1.out.ab⟩):p:=h
def Aza(h:p:=by have bs:Hid (V=9):=l3.out J;exact AAZ):p:=h
def AiZ(h:p:=by go_wp2;go_ret;exact⟨rfl,fO.out⟩):p:=h
def Ai0(h:p:=by go_enter func277,ntmps277;exact Hx):p:=h
def Ai1(h:p:=by go_enter func172,ntmps172;exact UH):p:=h
def Azi(h:p:=by have o5:=(hF 0 O).1;rw[Nat.zero_mul,Aab]at o5;exact Abu o5):p:=h
def Azj(h:p:=by intro k ba;refine⟨_,_,rfl,?_⟩;rw[BY,Cy,<-Px,h];exact Gc):p:=h
def Azl(h:p:=by clear a' be;go_wp2;go_ret;exact⟨by rw[<-eN];rfl,b1.out⟩):p:=h
def Azp(h:p:=by rw[(GJ w (.cells #[.int .i64 x] 3) none).block g i' J];exact a'):p:=h
def Azr(h:p:=by obtain⟨rfl,rfl⟩:=hrel;go_wp2;go_end0;exact C5):p:=h
def UW(h:p:=by exact⟨rfl,Al _ _⟩):p:=h
def Ai3(h:p:=by have:=Bs cq k ba;omega):p:=h
def Azs(h:p:=by have b5:z=0\/z=1\/z=2\/z=3\/z=4\/z=5:=O;exact ABk):p:=h
def UX(h:p:=by go_ret3;exact C5):p:=h
def Ai7(h:p:=by go_wp2;go_ret2;exact U4):p:=h
def AzG(h:p:=by clear bx;go_wp2;go_ret;exact⟨UG,Al _ _⟩):p:=h
def AzL(h:p:=by have n7:=nC.out d_ oB.out og.out;obtain⟨ol,nS,ny⟩:=n7;have nA:=U ol;have op:=U nS;have nP:=U ny;clear ol nS ny;have oq:Hid (DT l d_):=bv.out.perm nJ.out LS;have nW:Hid (d_.size=N):=RE;go_wp2_with fail;refine(lG.out a r c d_ _ O nW (A5 jv.out ou.out) oq.out nQ.out nA.out n6 nx).mono ?_;rintro i_ w2 ⟨rfl,fH,n',oh,⟨on,nB⟩,nY⟩;have nR:=U n';have nG:Hid (PermIn a c d_ fH):=on;have nI:Hid (SortedIn (AK l) a c fH):=nB;have n4:=U (A5 ou.out nY);clear n' oh on nB nY;exact Aip):p:=h
def AB0(h:p:=by have oB:Hid (d_.size=d.size):=Y8;have nQ:Hid (AI wr g cap d_):=YU;have og:Hid (∀k,d_[k]! = BL r m e (λk=>d[k]!) k):=Z4;have nJ:Hid (PermIn a b d d_):=YC;have ou:=dy;clear nF;have n7:=nC.out d_ oB.out og.out;obtain⟨ol,nS,ny⟩:=n7;have nA:=U ol;have op:=U nS;have nP:=U ny;clear ol nS ny;have oq:Hid (DT l d_):=bv.out.perm nJ.out LS;have nW:Hid (d_.size=N):=RE;have nI:Hid (SortedIn (AK l) a c d_):=nA.out.idle b';obtain⟨fH,np⟩:∃fH,fH=d_:=⟨d_,rfl⟩;have nG:Hid (PermIn a c d_ fH):=YB;rw[<-np]at nI;have nR:Hid (AI wr g cap fH):=YT;have n4:=ou;clear np;have n5:Hid (fH.size=N):=Y6;have of:Hid (DT l fH):=oq.out.perm nG.out ZZ;have nK:Hid (DS l c e b fH):=op.out.congr nG.out.1 (λk ba=>nG.out.2.1 k (.inr ba));have nX:Hid (SortedIn (AK l) c b fH):=nK.out.idle b9;obtain⟨iE,oF⟩:∃iE,iE=fH:=⟨fH,rfl⟩;have ow:Hid (PermIn c b fH iE):=Ahi;rw[<-oF]at nX;have oo:Hid (AI wr g cap iE):=Ahs;exact AxG):p:=h
def AB1(h:p:=by have nQ:=U nH;have oB:Hid (d_.size=d.size):=oz;have og:=U nw;have nJ:Hid (PermIn a b d d_):=I9 d d_ r e a b oD ot LS ob;have ou:=U (A5 dy.out nE);clear nH oz nw ob nE;have n7:=nC.out d_ oB.out og.out;obtain⟨ol,nS,ny⟩:=n7;have nA:=U ol;have op:=U nS;have nP:=U ny;clear ol nS ny;have oq:Hid (DT l d_):=bv.out.perm nJ.out LS;have nW:Hid (d_.size=N):=RE;have nI:Hid (SortedIn (AK l) a c d_):=nA.out.idle b';obtain⟨fH,np⟩:∃fH,fH=d_:=⟨d_,rfl⟩;have nG:Hid (PermIn a c d_ fH):=YB;rw[<-np]at nI;have nR:Hid (AI w1 g cap fH):=YT;have n4:=ou;clear np;have n5:Hid (fH.size=N):=Y6;have of:Hid (DT l fH):=oq.out.perm nG.out ZZ;have nK:Hid (DS l c e b fH):=op.out.congr nG.out.1 (λk ba=>nG.out.2.1 k (.inr ba));have nX:Hid (SortedIn (AK l) c b fH):=nK.out.idle b9;obtain⟨iE,oF⟩:∃iE,iE=fH:=⟨fH,rfl⟩;have ow:Hid (PermIn c b fH iE):=Ahi;rw[<-oF]at nX;have oo:Hid (AI w1 g cap iE):=Ahs;exact AxG):p:=h
def AB2(h:p:=by
 obtain⟨ns,nr⟩:=b9;have nM:¬r<m\/(r<m/\¬m<e):=O;have ov:¬a<r\/(a<r/\¬r<c):=O;rcases nM with nV|⟨n8,nV⟩
 all_goals rcases ov with oC|⟨nl,oC⟩
 all_goals
  obtain⟨d_,nF⟩:∃d_,d_=d:=⟨d,rfl⟩;have oB:Hid (d_.size=d.size):=Y8;have nQ:Hid (AI wr g cap d_):=YU;have og:Hid (∀k,d_[k]! = BL r m e (λk=>d[k]!) k):=Z4;have nJ:Hid (PermIn a b d d_):=YC;have ou:=dy;clear nF;have n7:=nC.out d_ oB.out og.out;obtain⟨ol,nS,ny⟩:=n7;have nA:=U ol;have op:=U nS;have nP:=U ny;clear ol nS ny;have oq:Hid (DT l d_):=bv.out.perm nJ.out LS;have nW:Hid (d_.size=N):=RE;have nI:Hid (SortedIn (AK l) a c d_):=nA.out.idle b';obtain⟨fH,np⟩:∃fH,fH=d_:=⟨d_,rfl⟩;have nG:Hid (PermIn a c d_ fH):=YB;rw[<-np]at nI;have nR:Hid (AI wr g cap fH):=YT;have n4:=ou;clear np;exact Aip):p:=h
def AB3(h:p:=by
 obtain⟨ns,nr⟩:=b9;have ov:¬a<r\/(a<r/\¬r<c):=O;rcases ov with oC|⟨nl,oC⟩
 all_goals
  go_wp2_with fail;refine(T8 N g cap r m e d _ wr iY jw.out cl nT nN O).mono ?_;rintro i_ w1 ⟨rfl,d_,nH,oz,⟨nw,ob⟩,nE⟩;have nQ:=U nH;have oB:Hid (d_.size=d.size):=oz;have og:=U nw;have nJ:Hid (PermIn a b d d_):=I9 d d_ r e a b oD ot LS ob;have ou:=U (A5 dy.out nE);clear nH oz nw ob nE;have n7:=nC.out d_ oB.out og.out;obtain⟨ol,nS,ny⟩:=n7;have nA:=U ol;have op:=U nS;have nP:=U ny;clear ol nS ny;have oq:Hid (DT l d_):=bv.out.perm nJ.out LS;have nW:Hid (d_.size=N):=RE;have nI:Hid (SortedIn (AK l) a c d_):=nA.out.idle b';obtain⟨fH,np⟩:∃fH,fH=d_:=⟨d_,rfl⟩;have nG:Hid (PermIn a c d_ fH):=YB;rw[<-np]at nI;have nR:Hid (AI w1 g cap fH):=YT;have n4:=ou;clear np;exact Aip):p:=h
def UY(h:p:=by obtain⟨⟨cf,b8,b',b9,cd,b6⟩,⟨ci,cb,b7,ca,cc,cg⟩⟩:=ac.out.box.load;go_wp2_with fail;refine(iL.out _ ac.out.tab (dm.out.below ac.out.ab) (dG.out.below ac.out.ab)).mono ?_;rintro e w1 ⟨kN,rfl,_,cC⟩;exact AAL):p:=h
def AzM(h:p:=by
 obtain⟨rfl,rfl⟩:=hcut;cases V with
 | true =>
  obtain rfl:K=3:=by rw[<-eb.out,N (If bv.out)]
  exact I6
 | false =>
  replace eb:=eb.out;rw[V (Fc bv.out)]at eb;replace eb:=U eb;obtain⟨pd,pe⟩:∃B,Hid (EC T ao [4]=B):=⟨_,rfl⟩;have iU:=U (CQ wc #[.int .i64 4] [4] 3 rfl);have fU:=U (ac.out.step ((Al wc.heap.size wc).alloc (Ac _) (.cells #[.int .i64 4] 3)));obtain⟨⟨cf,b8,b',b9,cd,b6⟩,⟨ci,cb,b7,ca,cc,cg⟩⟩:=ac.out.box.load;go_wp2_with fail;refine(OW x T _ n cap ao _ 1 1 [4] pd _ fU.out.tab j0.out (dG.out.below fU.out.ab) bb cl iU.out rfl O pe).mono ?_;rintro e kv ⟨rfl,ad⟩;replace ac:=U (fU.out.step ad);clear ad iU fU;clear cf b8 b' b9 cd b6 ci cb b7 ca cc cg;exact ABu):p:=h
def AzN(h:p:=by have pc:=U (CQ jP #[.int .i64 c] [c] 3 rfl);have jm:Hid (Ak (jP.alloc (.cells #[.int .i64 c] 3)) f5.heap.size (.slice (some ⟨go,0,none⟩) no hE) O):=jU.out.alloc _;have eJ:f5.heap.size<=(jP.alloc (.cells #[.int .i64 c] 3)).heap.size:=RS;have kQ:=U (b1.out.alloc b1.out.size (.cells #[.int .i64 c] 3));clear eI;go_wp2_with (at_builtin;(refine De _ _ rfl rfl f5.heap.size (.slice (some ⟨go,0,none⟩) no hE) O rfl jm.out (some ⟨jP.heap.size,0,none⟩) 1 1 [c] rfl rfl pc.out Rr eJ ?_);intro v4 eC iC e8);exact Ait):p:=h
def AzO(h:p:=by have pc:=U (CQ W #[.int .i64 c] [c] 3 rfl);have jm:Hid (Ak (W.alloc (.cells #[.int .i64 c] 3)) f5.heap.size (.slice (some ⟨go,0,none⟩) no hE) O):=jU.out.alloc _;have eJ:f5.heap.size<=(W.alloc (.cells #[.int .i64 c] 3)).heap.size:=RS;have kQ:=U (b1.out.alloc b1.out.size (.cells #[.int .i64 c] 3));clear eI;go_wp2_with (at_builtin;(refine De _ _ rfl rfl f5.heap.size (.slice (some ⟨go,0,none⟩) no hE) O rfl jm.out (some ⟨W.heap.size,0,none⟩) 1 1 [c] rfl rfl pc.out Rr eJ ?_);intro v4 eC iC e8);exact Ait):p:=h
def Ai9(h:p:=by obtain⟨q,dO⟩:∃q:Nat,AZ r.tail 12=q:=⟨(AZ r.tail 12).toNat,Ayq⟩;have pt:q<12:=Ayq;have h8:=U dO;have pr:=Ao2 q pt;obtain⟨y,b0⟩:∃y:Int,(((ByteArray.mk #[97,98,109,110,111,114,48,45,120,65,90,49])[q]'(pt)).toNat:Int)=y:=⟨_,rfl⟩;have po:0<=y/\y<=127:=ABU;exact ABH):p:=h
def AzP(h:p:=by have pc:=U (CQ W #[.int .i64 c] [c] 3 rfl);have jm:Hid (Ak (W.alloc (.cells #[.int .i64 c] 3)) f5.heap.size (.slice jT no hE) O):=jU.out.alloc _;have eJ:f5.heap.size<=(W.alloc (.cells #[.int .i64 c] 3)).heap.size:=RS;have kQ:=U (b1.out.alloc b1.out.size (.cells #[.int .i64 c] 3));clear eI;go_wp2_with (at_builtin;(refine De _ _ rfl rfl f5.heap.size (.slice jT no hE) O rfl jm.out (some ⟨W.heap.size,0,none⟩) 1 1 [c] rfl rfl pc.out Rr eJ ?_);intro v4 eC iC e8);exact Ait):p:=h
def AzQ(h:p:=by have ji:=U (dL.out.step ((Al w2.heap.size w2).alloc (Ac _) (.cells #[.int .i64 c] 3)));have jY:=U (CG iF.out (.cells #[.int .i64 c] 3));have nd:w.heap.size+1<=(w2.alloc (.cells #[.int .i64 c] 3)).heap.size:=Ae;clear bt eI e';go_wp2_with (at_builtin;(refine De (.tmp 34) (.tmp 36) rfl rfl (w.heap.size+1) u8 (AF T (ao.take k)) rfl jY.out (some ⟨w2.heap.size,0,none⟩) 1 1 [c] rfl rfl (Ad5 w2 c) Awd nd ?_);intro v4 eC iC e8);exact AxH):p:=h
def AzR(h:p:=by have ji:=U (dL.out.step ((Al w2.heap.size w2).alloc (Ac _) (.cells #[.int .i64 c] 3)));have jY:=U (CG iF.out (.cells #[.int .i64 c] 3));have nd:w.heap.size+1<=(w2.alloc (.cells #[.int .i64 c] 3)).heap.size:=Ae;clear bt eI e';go_wp2_with (at_builtin;(refine De (.tmp 40) (.tmp 42) rfl rfl (w.heap.size+1) u8 (AF T (ao.take k)) rfl jY.out (some ⟨w2.heap.size,0,none⟩) 1 1 [c] rfl rfl (Ad5 w2 c) Awd nd ?_);intro v4 eC iC e8);exact AxH):p:=h
def AB4(h:p:=by
 have nM:¬r<m\/(r<m/\¬m<e):=O;have oc:¬c<e\/(c<e/\¬e<b):=O;rcases nM with nV|⟨n8,nV⟩
 all_goals rcases oc with n2|⟨oa,n2⟩
 all_goals
  obtain⟨d_,nF⟩:∃d_,d_=d:=⟨d,rfl⟩;have oB:Hid (d_.size=d.size):=Y8;have nQ:Hid (AI wr g cap d_):=YU;have og:Hid (∀k,d_[k]! = BL r m e (λk=>d[k]!) k):=Z4;have nJ:Hid (PermIn a b d d_):=YC;have ou:=dy;clear nF;exact AxE):p:=h
def AB5(h:p:=by
 have oc:¬c<e\/(c<e/\¬e<b):=O;rcases oc with n2|⟨oa,n2⟩
 all_goals
  go_wp2_with fail;refine(T8 N g cap r m e d _ wr iY jw.out cl nT nN O).mono ?_;rintro i_ w1 ⟨rfl,d_,nH,oz,⟨nw,ob⟩,nE⟩;have nQ:=U nH;have oB:Hid (d_.size=d.size):=oz;have og:=U nw;have nJ:Hid (PermIn a b d d_):=I9 d d_ r e a b oD ot LS ob;have ou:=U (A5 dy.out nE);clear nH oz nw ob nE;exact AxE):p:=h
def Ai_(h:p:=by have oE:Hid (SortedIn (AK l) a b iE):=Anu AvU O O nP.out nG.out nI.out ow.out nX.out;have oA:Hid (PermIn a b d iE):=I' _ _ _ _ _ nJ.out (I' _ _ _ _ _ (I9 d_ fH a c a b (Ac a) O AvU nG.out) (I9 fH iE c b a b O (Ac b) ABY ow.out));exact ABT):p:=h
def UZ(h:p:=by generalize (w3.setCell ⟨w.heap.size+1+1,9,none⟩ (.slice fY fZ eO))=eR at ac|-;exact Z5):p:=h
def AzS(h:p:=by have dx:Hid (z=11):=Ays;have d':decide (97<=c)=false:=Ae;have bt:decide (65<=c)=false:=Ae;have bd:decide (48<=c)=false:=Ae;have ct:0<=c:=O;have eZ:c<=122:=O;have fl:c<=90:=O;have hK:c<=57:=O;have im:c<=32:=O;have il:c<127:=O;have ik:decide (32<c)=false:=Ae;have j8:(c==45)=false:=Ae;have j9:(c==46)=false:=Ae;exact Ajn):p:=h
def AzU(h:p:=by have eh:=U b3;clear b3;go_enter func249,ntmps249;exact AAP):p:=h
def AzV(h:p:=by have eh:=U b3;clear b3;go_enter func122,ntmps122;exact AAP):p:=h
def Ai'(h:p:=by rw[N Yz,co.out]at eG;injection eG with bt bd;subst bt;subst bd;clear bl;exact I6):p:=h
def AzW(h:p:=by
 have iM:=ad.out.size;go_wp2_with (at_builtin;(refine Pg (.tmp 32) (.tmp 34) rfl rfl w1.heap.size (.slice pb m kO) A rfl cq.out k 1 _ rfl J UF iM ?_);intro mS w3 c9 eg);have o':Hid (Ak w3 w1.heap.size mS (Ez fg (k+1))):=by
  unfold Hid;rw[hO.out,lj.out];simpa using c9
 exact ABN):p:=h
def AzY(h:p:=by have dx:Hid (z=8):=ZC;have d':decide (97<=c)=false:=Ae;have bt:decide (65<=c)=false:=Ae;have bd:decide (48<=c)=false:=Ae;exact AAG):p:=h
def AzZ(h:p:=by
 have j8:(c==127)=false:=Ae;have j9:(c==32)=false:=Ae;clear cO;cases S with
 | true =>
  have dm:=fh.out (.inl rfl);have ia:=U dm;clear dm;go_enter func96,ntmps96;exact AxU
 | false =>
  exact ABA):p:=h
def AB8(h:p:=by
 obtain⟨b,ff,rfl,jS⟩:=dG.out k dJ;obtain⟨x,b3⟩:∃x,l.getD k 0=x:=⟨_,rfl⟩;rw[b3]at jS;rcases(show x<0\/(¬x<0/\127<x)\/(¬x<0/\¬127<x) by omega)with h|⟨h,be⟩|⟨h,be⟩
 ·exact ABR
 ·exact ABS
 ·exact ABK):p:=h
def AB9(h:p:=by
 have oN:(A7 (L.take (k+1))).length<=1099511627776:=ABa;have oS:=U oN;have fb:=U dN.out.size;clear b3 oM oP oW dJ oN;by_cases bl:k=0
 ·have oV:Hid (Y=[]):=by unfold Hid;rw[<-c'.out,bl];simp[A7]
  exact ABD
 ·exact ABt):p:=h
def Az0(h:p:=by
 rintro e w3 ⟨rfl,eS⟩;have dF:=U (fz.out.step eS);have o1:=U (kD.out.below eS);clear eS cf b8 b' b9 cd b6 ci cb b7 ca cc cg jd;by_cases a':u=1
 ·exact ABJ
 ·exact ABG):p:=h
def Aja(h:p:=by replace ac:=U (ac.out.step ad);clear ad;clear cf b8 b' b9 cd b6 ci cb b7 ca cc cg;exact Df):p:=h
def Az2(h:p:=by go_wp2_with fail;refine(Ky c false _ eF).mono ?_;rintro e jD ⟨rfl,rfl⟩;go_wp2_with fail;refine(QV c true _ fJ).mono ?_;rintro e w6 ⟨rfl,rfl⟩;go_wp2;go_ret;rw[ia.out];exact JO):p:=h
def Ajb(h:p:=by obtain⟨q,dO⟩:∃q:Nat,AZ r.tail 28=q:=⟨(AZ r.tail 28).toNat,Ayr⟩;have lC:q<28:=Ayr;exact ABI):p:=h
def Az3(h:p:=by
 have kp:Hid (AF T (ao.take (k+1))=AF T (ao.take k)):=AA';have ke:Hid (Ak w2 (w.heap.size+1) u8 (AF T (ao.take (k+1)))):=by unfold Hid;rw[kp.out];exact iF.out
 exact ABO):p:=h
def N5(h:p:=by have dx:Hid (z=1):=Aiz;exact ABs):p:=h
def Az4(h:p:=by have dx:Hid (z=1):=Aiz;have d':97<=c:=O;have bt:65<=c:=O;have bd:0<=c:=O;have ct:decide (c<=122)=false:=Ae;have eZ:decide (c<=90)=false:=Ae;exact Ais):p:=h
def Az5(h:p:=by
 clear cO;cases S with
 | true =>
  have dm:=fh.out (.inl rfl);have ia:=U dm;clear dm;go_enter func190,ntmps190;exact AxU
 | false =>
  exact ABz):p:=h
def Az6(h:p:=by have bt:65<=c:=O;have bd:48<=c:=O;have ct:0<=c:=O;have eZ:c<=122:=O;have fl:decide (c<=90)=false:=Ae;have hK:decide (c<=57)=false:=Ae;exact Air):p:=h
def Z0(h:p:=by replace ac:=U (ac.out.step ad);clear ad;exact Df):p:=h
def Az7(h:p:=by
 obtain rfl:k=n:=by omega
 have ka:IL T ao ao.length 0=none:=(Abg T ao _ 0).2 λj _ h=>cA.out j Aho;have eG:=c8.out;unfold Lj at eG;exact Ax3):p:=h
def Az8(h:p:=by
 obtain rfl:k=n:=by omega
 have ka:Li T ao ao.length 0=none:=(Abe T ao _ 0).2 λj _ h=>cA.out j Aho;have eG:=c8.out;unfold Ma at eG;exact Ax3):p:=h
def Az9(h:p:=by have hK:decide (c<=57)=false:=Ae;exact Air):p:=h
def Az_(h:p:=by have ka:Li T ao ao.length 0=some k:=Abd ao.length 0 k O O (λj _ h=>cA.out j h) ej;have eG:=c8.out;unfold Ma at eG;exact AxZ):p:=h
def Ajc(h:p:=by
 have e:Az c=0:=by unfold Az;omega
 go_enter func44,ntmps44;exact I7):p:=h
def AAa(h:p:=by
 have fF:(hH !=0)=true:=by simp[iP]
 obtain rfl:V=hH:=by rw[<-bv.out,N iP]
 clear iP;exact Df):p:=h
def Ajd(h:p:=by clear jq;go_enter func297,ntmps297;go_wp2;go_ret2;exact Ax0):p:=h
def Aje(h:p:=by clear b4;obtain⟨io,ip,jK,jO,jN,jJ,jM⟩:=cp.out;exact Df):p:=h
def Ajf(h:p:=by clear jq;go_enter func186,ntmps186;go_wp2;go_ret;exact Ax0):p:=h
def Ajg(h:p:=by have j8:(c==127)=false:=Ae;have j9:(c==32)=false:=Ae;exact Ah7):p:=h
def AAc(h:p:=by
 have la:(a==108)=false:=by simp[jh]
 obtain rfl:R=false:=by rw[j_.out,Ai jh];rfl
 clear j_ jh;exact Df):p:=h
def AAd(h:p:=by have bt:65<=c:=O;have bd:0<=c:=O;have ct:c<=122:=O;have eZ:decide (c<=90)=false:=Ae;exact Ais):p:=h
def AAe(h:p:=by
 have d_:(f==c)=false:=by simp[a']
 have bb:Hid (AP (l.take (k+1)) c=false):=jG.out a';clear a';exact AiE):p:=h
def U0(h:p:=by go_wp2;go_ret;rw[dx.out];exact JO):p:=h
def AAf(h:p:=by
 obtain rfl:j=m:=by omega
 have d8:Hid ((T.map.take (k+1)).all (Gw T)=true):=AA8;exact AiC):p:=h
def U1(h:p:=by go_enter func74,ntmps74;exact I7):p:=h
def AAg(h:p:=by have mX:ao=[]:=Bw (by rw[bb.out];exact a');rw[N mX]at bv;subst bv;subst a';clear mX;exact Df):p:=h
def AAh(h:p:=by
 go_wp2;go_roundw
 case rel=>exact⟨k+1,O,An,fR,Dr⟩
 case measure=>simp[intOf];omega):p:=h
def AAi(h:p:=by
 have ev:(A !=0)=true:=by simp[bl]
 obtain rfl:V=A:=by rw[<-bv.out,N bl]
 exact U3):p:=h
def AAk(h:p:=by have jH:decide (1632<=c)=false:=Ai O;have fX:decide (1776<=c)=false:=Ai O;exact AiA):p:=h
def Ajh(h:p:=by go_wp2;go_ret;exact⟨J,fO.out⟩):p:=h
def AAl(h:p:=by
 go_wp2;go_roundw
 case rel=>exact⟨j+1,O,An,d8,dF,o1⟩
 case measure=>simp[intOf];omega):p:=h
def AAm(h:p:=by
 go_wp2;go_roundw
 case rel=>exact⟨k+1,O,An,ke,lu,iR,nf⟩
 case measure=>simp[intOf];omega):p:=h
def AAn(h:p:=by
 have e:(Az c==0)=false:=by unfold Az;simp;omega
 go_enter func44,ntmps44;exact I7):p:=h
def AAp(h:p:=by have fl:decide (c<=90)=false:=Ae;have hK:decide (c<=57)=false:=Ae;exact Aiu):p:=h
def Z2(h:p:=by have dx:Hid (z=5):=ZA;exact ABv):p:=h
def AAq(h:p:=by replace ac:=U (ac.out.step ad);clear ad cf b8 b' b9 cd b6 ci cb b7 ca cc cg;exact UU):p:=h
def N6(h:p:=by go_ret2;exact C5):p:=h
def Aji(h:p:=by subst bt;subst bd;clear eX;exact Pt):p:=h
def Ajj(h:p:=by obtain rfl:B=true:=mf.out ABo;exact RM):p:=h
def AAs(h:p:=by rintro e w2 ⟨rfl,dK⟩;replace ac:=U (ac.out.step dK);clear dK;exact Df):p:=h
def Ajk(h:p:=by go_wp2;go_ret;rw[dm.out];exact JO):p:=h
def AAx(h:p:=by have d_:=AtJ x jE;have eX:Hid (K=k/\E=10):=AA3;exact AiD):p:=h
def ACa(h:p:=by obtain rfl:S=ByteArray.empty:=Rw;clear c8 eF a';exact ZK):p:=h
def Ajl(h:p:=by clear c9 eg dz d9 dc db cv es ec e_;exact RH):p:=h
def Z3(h:p:=by clear eT hG er;exact Hx):p:=h
def AAz(h:p:=by have eG:=c8.out;unfold Lj at eG;exact AxZ):p:=h
def AAA(h:p:=by
 obtain rfl:R=false:=by rw[jl.out];rfl
 exact ZO):p:=h
def AAB(h:p:=by replace ac:=U (ac.out.step ad);clear ad;exact ZK):p:=h
def RQ(h:p:=by go_ret;exact C5):p:=h
def AAC(h:p:=by have fH:decide (a<=t)=false:=Ai be;exact AiB):p:=h
def Ajm(h:p:=by go_wp2;go_ret2;exact JO):p:=h
def AAD(h:p:=by obtain rfl:B=(c !=46):=ABn;clear eT;exact Df):p:=h
def ACb(h:p:=by
 obtain⟨nT,nN⟩:=b8;by_cases b':a<r/\r<c
 ·obtain⟨n6,nx⟩:=b';by_cases b9:c<e/\e<b
  ·obtain⟨ns,nr⟩:=b9;go_wp2_with fail;refine(T8 N g cap r m e d _ wr iY jw.out cl nT nN O).mono ?_;rintro i_ w1 ⟨rfl,d_,nH,oz,⟨nw,ob⟩,nE⟩;have nQ:=U nH;have oB:Hid (d_.size=d.size):=oz;have og:=U nw;have nJ:Hid (PermIn a b d d_):=I9 d d_ r e a b oD ot LS ob;have ou:=U (A5 dy.out nE);clear nH oz nw ob nE;exact AzL
  ·
   exact AB5
 ·
  by_cases b9:c<e/\e<b
  ·exact AB3
  ·
   have ov:¬a<r\/(a<r/\¬r<c):=O;have oc:¬c<e\/(c<e/\¬e<b):=O;rcases ov with oC|⟨nl,oC⟩
   all_goals rcases oc with n2|⟨oa,n2⟩
   all_goals
    go_wp2_with fail;refine(T8 N g cap r m e d _ wr iY jw.out cl nT nN O).mono ?_;rintro i_ w1 ⟨rfl,d_,nH,oz,⟨nw,ob⟩,nE⟩;exact AB1):p:=h
def ACc(h:p:=by
 by_cases b':a<r/\r<c
 ·obtain⟨n6,nx⟩:=b';by_cases b9:c<e/\e<b
  ·obtain⟨ns,nr⟩:=b9;have nM:¬r<m\/(r<m/\¬m<e):=O;rcases nM with nV|⟨n8,nV⟩
   all_goals
    obtain⟨d_,nF⟩:∃d_,d_=d:=⟨d,rfl⟩;have oB:Hid (d_.size=d.size):=Y8;have nQ:Hid (AI wr g cap d_):=YU;have og:Hid (∀k,d_[k]! = BL r m e (λk=>d[k]!) k):=Z4;have nJ:Hid (PermIn a b d d_):=YC;have ou:=dy;clear nF;exact AzL
  ·
   exact AB4
 ·
  by_cases b9:c<e/\e<b
  ·exact AB2
  ·
   have nM:¬r<m\/(r<m/\¬m<e):=O;have ov:¬a<r\/(a<r/\¬r<c):=O;have oc:¬c<e\/(c<e/\¬e<b):=O;rcases nM with nV|⟨n8,nV⟩
   all_goals rcases ov with oC|⟨nl,oC⟩
   all_goals rcases oc with n2|⟨oa,n2⟩
   all_goals
    obtain⟨d_,nF⟩:∃d_,d_=d:=⟨d,rfl⟩;exact AB0):p:=h
def ACd(h:p:=by
 obtain⟨b,ff,q,c,rfl,oP,_,oM⟩:=dG.out k dJ;obtain⟨x,b3⟩:∃x,L.getD k []=x:=⟨_,rfl⟩;rw[b3]at oP oM;obtain⟨oT,oW⟩:∃oT,x.length=oT:=⟨_,rfl⟩;rw[oW]at oP;have jS:=(dN.out.cell (p:=⟨b,ff+k,none⟩) (AN w _ oP)).trans oP;have oO:=U oM;have h8:=U (oM.below dN.out);have ms:=U oW;have oY:Hid (L.take (k+1)=L.take k++[x]):=by unfold Hid;rw[AgG L k dJ,b3]
 exact AB9):p:=h
def ACe(h:p:=by
 obtain⟨k,ba,rfl,cI,rfl⟩:=hrel;by_cases ee:k<n
 ·have dJ:k<l.length:=by rw[bx.out];exact ee
  exact AB8
 ·exact ABX):p:=h
def AAF(h:p:=by have bd:48<=c:=O;have ct:0<=c:=O;have eZ:c<=122:=O;have fl:c<=90:=O;exact Az9):p:=h
def Z5(h:p:=by clear c9 eg dz d9 cm dc db cv c' es ec e_;exact RH):p:=h
def AAG(h:p:=by have ct:0<=c:=O;have eZ:c<=122:=O;have fl:c<=90:=O;have hK:c<=57:=O;exact Air):p:=h
def AAH(h:p:=by injection b0 with bt bd;injection bd with bd ct;subst bt;subst bd;subst ct;exact ACa):p:=h
def ACg(h:p:=by
 obtain⟨D,K,rfl,rfl,eo,co,rfl⟩:=hrel;by_cases h:455<D
 ·exact ABw
 ·exact ABL):p:=h
def AAJ(h:p:=by
 have ev:(A !=0)=true:=by simp[bl]
 have eG:=c8.out;unfold Lj at eG;exact Ai'):p:=h
def AAK(h:p:=by
 have ev:(A !=0)=true:=by simp[bl]
 have eG:=c8.out;unfold Ma at eG;exact Ai'):p:=h
def AAL(h:p:=by replace ac:=U (ac.out.step cC);clear cC cf b8 b' b9 cd b6 ci cb b7 ca cc cg;exact Df):p:=h
def Ajn(h:p:=by have o9:(c==127)=false:=Ae;exact AxJ):p:=h
def U3(h:p:=by clear bl;exact Df):p:=h
def AAM(h:p:=by have fO:=U (ac.out.step ad).ab;clear ad;exact Ajh):p:=h
def AAN(h:p:=by
 obtain rfl:r=s:=by omega
 obtain⟨e,bc⟩:∃e,c+m-r=e:=⟨_,rfl⟩;have oy:(c:Int)+(m:Int)-(r:Int)=(e:Int):=O;have om:r<=m:=O;have nU:m<=e:=O;have nm:r<=c:=O;have oi:c<=e:=O;have ot:e<=b:=O;have oD:a<=r:=O;have nn:=λ(d_:Array Int) (b5:d_.size=d.size) (ga:∀k,d_[k]! = BL r m e (λk=>d[k]!) k)=>ei.out.cY (s:=r) (hQ:=d_) a' be (by rw[lK.out];exact lE) (by rw[lK.out];exact lF) (by rw[lK.out,lH.out];exact cC.out) (by rw[lK.out,lH.out];exact dK.out) b5 (by rw[lH.out,bc];exact ga);rw[lH.out,bc]at nn;have nC:=U nn;have nD:=U (A5 jv.out dy.out);clear nn bc cC dK;by_cases b8:r<m/\m<e
 ·exact ACb
 ·have ox:r=m\/m=e:=by omega
  have nO:¬(r<m/\m<e):=b8;exact ACc):p:=h
def AAO(h:p:=by
 go_wp2;go_loopw[7] (λi wr=>∃k:Nat,k<=n/\i=.int .i64 k/\Hid (∀j,j<k->0<=l.getD j 0/\l.getD j 0<=127)/\wr=w) (λi _=>n-(intOf i).toNat)
 case atStart=>exact⟨0,Au _,rfl,λj ed=>O,rfl⟩
 case round=>
  exact ACe):p:=h
def AAP(h:p:=by
 go_wp2;go_loopw[0,7] (λu v wr=>∃D K:Nat,u=.int .i64 D/\v=.int .i64 K/\D+K<=2199023255588/\Hid (Il D K=B)/\wr=w) (λu _ _=>(intOf u).toNat)
 case atStart=>exact⟨x+y,0,An,rfl,O,b1,rfl⟩
 case round=>
  exact ACg):p:=h
def ACj(h:p:=by
 obtain⟨k,Y,ba,rfl,c',cq,dN⟩:=hrel;by_cases ee:k<n
 ·have dJ:k<L.length:=by rw[bx.out];exact ee
  exact ACd
 ·exact ABQ):p:=h
def AAS(h:p:=by
 go_wp2;go_loopw[3,8] (λu i wr=>∃(k:Nat) (Y:List Int),k<=n/\i=.int .i64 k/\Hid (A7 (L.take k)=Y)/\Hid (Ak wr w.heap.size u Y)/\Hid (Below w.heap.size w wr)) (λ_ i _=>n-(intOf i).toNat)
 case atStart=>exact⟨0,[],Au _,rfl,by simp[Hid,A7],Ak.nil _ _,Al _ _⟩
 case round=>
  exact ACj):p:=h
end Go.Proofs.YtblcoicaeeiojaaGreatDoor
