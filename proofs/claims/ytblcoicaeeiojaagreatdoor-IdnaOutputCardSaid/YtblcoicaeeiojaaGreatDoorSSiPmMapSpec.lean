/- The contracts of keep.point, keep.Points; of table.Maps. sli -/
import Derived.Test.YtblcoicaeeiojaaGreatDoorSSiTblJ
import Derived.Test.YtblcoicaeeiojaaGreatDoorSSiPmOrdB
import Derived.Test.YtblcoicaeeiojaaGreatDoorSSiPmTabW
import Derived.Test.YtblcoicaeeiojaaGreatDoorSSiPmBidFact
import Derived.Test.YtblcoicaeeiojaaGreatDoorSSiPmUtfE
import Derived.Test.YtblcoicaeeiojaaGreatDoorSSiPmOwn
import Derived.Deep.CutBlock
import Derived.Deep.DeepCutAuto
set_option linter.unusedSimpArgs false
set_option linter.unusedVariables false
namespace Go.Proofs.YtblcoicaeeiojaaGreatDoor
open Go.RowKit
def PointPost (g:Nat) (w:World) (e:Ending) (w':World):Prop :=
 ∃(c:Int) (r:List Int),e = .returned (.int .i64 c)∧scaB c=true∧Src w' g r∧w.grownBy w' (some g)
theorem pool_scalar:∀j,j<28→scaB (poolL.getD j 0)=true:=by decide +kernel
theorem few_scalar:∀j,j<4→scaB ([4352,4449,4520,46].getD j 0)=true:=by decide +kernel
theorem lit_small:∀q (h:q<12),((#[97,98,109,110,111,114,48,45,120,65,90,49]:Array UInt8)[q]).toNat≤127:=by decide +kernel
set_option maxHeartbeats 1000000 in
theorem point_any (g : Nat) (r : List Int) (w : World) (hs : Src w g r) :
  Calls Tryz.prog 42 #[.pointer (some ⟨g,0,none⟩)] w (PointPost g w):=by
 have HS:=Lib.hid hs
 have hg:g<w.heap.size:=by obtain⟨_,_,_,_,_,_,_,h4,_⟩:=hs;exact World.block_lt_of_cell? w _ h4
 clear hs
 obtain⟨v0,v1⟩:=nextV_bd r 8 (by omega)
 have hv:nextV r 8=0∨nextV r 8=1∨nextV r 8=2∨nextV r 8=3∨nextV r 8=4∨nextV r 8=5∨nextV r 8=6∨nextV r 8=7:=by omega
 clear v0 v1
 rcases hv with hv|hv|hv|hv|hv|hv|hv|hv
 all_goals
  have HV:=Lib.hid hv
  clear hv
  go_enter Tryz.func42,Tryz.ntmps42
  go_wp2_with fail
  refine(pool_any _).mono ?_
  rintro e w1 ⟨rfl,hi1,hz1,hb1⟩
  have HI1:=Lib.hid hi1
  have HB1:=Lib.hid hb1
  clear hi1 hb1
  go_wp2_with fail
  refine(next_at g r 8 _ _ (HS.out.below HB1.out) (by omega) (by omega) HV).mono ?_
  rintro e w2 ⟨rfl,hs2,hg2⟩
  have HS2:=Lib.hid hs2
  have HG2:=Lib.hid (grownBy_trans (below_grownBy HB1.out _) hg2)
  have HI2:=Lib.hid (HI1.out.grown hg2 (by intro b off e;cases e;omega))
  clear hs2 hg2 HI1 HB1
  go_wp2_with fail
 ·obtain⟨q,hq⟩:∃q:Nat,nextV r.tail 12=q:=⟨(nextV r.tail 12).toNat,by have:=nextV_bd r.tail 12 (by omega);omega⟩
  have hq12:q<12:=by have:=nextV_bd r.tail 12 (by omega);omega
  have HQ:=Lib.hid hq
  have hsm:=lit_small q hq12
  obtain⟨y,hy⟩:∃y:Int,(((ByteArray.mk #[97,98,109,110,111,114,48,45,120,65,90,49])[q]'(hq12)).toNat:Int)=y:=⟨_,rfl⟩
  have hy0:0≤y∧y≤127:=by rw[←hy];exact⟨by omega,by exact_mod_cast hsm⟩
  have HN:Hid (scaB y=true):=by unfold Hid scaB;simp;omega
  obtain⟨hy0,hy1⟩:=hy0
  clear hq hsm
  refine(next_at g r.tail 12 q _ HS2.out (by omega) (by omega) HQ).mono ?_
  rintro e w3 ⟨rfl,hs3,hg3⟩
  have HS3:=Lib.hid hs3
  have HG3:=Lib.hid (grownBy_trans HG2.out hg3)
  clear hs3 hg3
  go_wp2
  go_ret
  exact⟨y,_,rfl,HN.out,HS3.out,HG3.out⟩
 ·obtain⟨q,hq⟩:∃q:Nat,nextV r.tail 12=q:=⟨(nextV r.tail 12).toNat,by have:=nextV_bd r.tail 12 (by omega);omega⟩
  have hq12:q<12:=by have:=nextV_bd r.tail 12 (by omega);omega
  have HQ:=Lib.hid hq
  have hsm:=lit_small q hq12
  obtain⟨y,hy⟩:∃y:Int,(((ByteArray.mk #[97,98,109,110,111,114,48,45,120,65,90,49])[q]'(hq12)).toNat:Int)=y:=⟨_,rfl⟩
  have hy0:0≤y∧y≤127:=by rw[←hy];exact⟨by omega,by exact_mod_cast hsm⟩
  have HN:Hid (scaB y=true):=by unfold Hid scaB;simp;omega
  obtain⟨hy0,hy1⟩:=hy0
  clear hq hsm
  refine(next_at g r.tail 12 q _ HS2.out (by omega) (by omega) HQ).mono ?_
  rintro e w3 ⟨rfl,hs3,hg3⟩
  have HS3:=Lib.hid hs3
  have HG3:=Lib.hid (grownBy_trans HG2.out hg3)
  clear hs3 hg3
  go_wp2
  go_ret
  exact⟨y,_,rfl,HN.out,HS3.out,HG3.out⟩
 ·obtain⟨q,hq⟩:∃q:Nat,nextV r.tail 12=q:=⟨(nextV r.tail 12).toNat,by have:=nextV_bd r.tail 12 (by omega);omega⟩
  have hq12:q<12:=by have:=nextV_bd r.tail 12 (by omega);omega
  have HQ:=Lib.hid hq
  have hsm:=lit_small q hq12
  obtain⟨y,hy⟩:∃y:Int,(((ByteArray.mk #[97,98,109,110,111,114,48,45,120,65,90,49])[q]'(hq12)).toNat:Int)=y:=⟨_,rfl⟩
  have hy0:0≤y∧y≤127:=by rw[←hy];exact⟨by omega,by exact_mod_cast hsm⟩
  have HN:Hid (scaB y=true):=by unfold Hid scaB;simp;omega
  obtain⟨hy0,hy1⟩:=hy0
  clear hq hsm
  refine(next_at g r.tail 12 q _ HS2.out (by omega) (by omega) HQ).mono ?_
  rintro e w3 ⟨rfl,hs3,hg3⟩
  have HS3:=Lib.hid hs3
  have HG3:=Lib.hid (grownBy_trans HG2.out hg3)
  clear hs3 hg3
  go_wp2
  go_ret
  exact⟨y,_,rfl,HN.out,HS3.out,HG3.out⟩
 ·obtain⟨q,hq⟩:∃q:Int,nextV r.tail 60=q:=⟨_,rfl⟩
  obtain⟨hq0,hq1⟩:=nextV_bd r.tail 60 (by omega)
  rw[hq]at hq0 hq1
  have HQ:=Lib.hid hq
  clear hq
  have HN:Hid (scaB (44032+q)=true):=by unfold Hid scaB;simp;omega
  refine(next_at g r.tail 60 q _ HS2.out (by omega) (by omega) HQ).mono ?_
  rintro e w3 ⟨rfl,hs3,hg3⟩
  have HS3:=Lib.hid hs3
  have HG3:=Lib.hid (grownBy_trans HG2.out hg3)
  clear hs3 hg3
  go_wp2
  go_ret
  exact⟨_,_,rfl,HN.out,HS3.out,HG3.out⟩
 ·obtain⟨q,hq⟩:∃q:Nat,nextV r.tail 4=q:=⟨(nextV r.tail 4).toNat,by have:=nextV_bd r.tail 4 (by omega);omega⟩
  have hqn:q<4:=by have:=nextV_bd r.tail 4 (by omega);omega
  have HQ:=Lib.hid hq
  clear hq
  have HN:Hid (scaB (([4352,4449,4520,46]:List Int).getD q 0)=true):=few_scalar q hqn
  obtain⟨y,hy⟩:∃y,([4352,4449,4520,46]:List Int).getD q 0=y:=⟨_,rfl⟩
  rw[hy]at HN
  refine(next_at g r.tail 4 q _ (HS2.out.alloc _) (by omega) (by omega) HQ).mono ?_
  rintro e w3 ⟨rfl,hs3,hg3⟩
  obtain⟨_,_,hbe,hck⟩:=((lit_ints w2 #[.int .i64 4352,.int .i64 4449,.int .i64 4520,.int .i64 46] [4352,4449,4520,46] _ rfl).grown hg3 (by intro b off e;cases e;have:=HG2.out.size;omega)) q hqn
  cases hbe
  rw[hy,Nat.zero_add]at hck
  have HS3:=Lib.hid hs3
  have HG3:=Lib.hid (grownBy_trans (grownBy_trans HG2.out (World.grownBy_alloc _ _ _)) hg3)
  clear hs3 hg3 hy
  go_wp2
  go_ret
  exact⟨y,_,rfl,HN.out,HS3.out,HG3.out⟩
 ·obtain⟨q,hq⟩:∃q:Nat,nextV r.tail 28=q:=⟨(nextV r.tail 28).toNat,by have:=nextV_bd r.tail 28 (by omega);omega⟩
  have hqn:q<28:=by have:=nextV_bd r.tail 28 (by omega);omega
  have HQ:=Lib.hid hq
  clear hq
  have HN:Hid (scaB (poolL.getD q 0)=true):=pool_scalar q hqn
  obtain⟨y,hy⟩:∃y,poolL.getD q 0=y:=⟨_,rfl⟩
  rw[hy]at HN
  refine(next_at g r.tail 28 q _ HS2.out (by omega) (by omega) HQ).mono ?_
  rintro e w3 ⟨rfl,hs3,hg3⟩
  obtain⟨_,_,hbe,hck⟩:=(HI2.out.grown hg3 (by intro b off e;cases e;omega)) q hqn
  cases hbe
  rw[hy,Nat.zero_add]at hck
  have HS3:=Lib.hid hs3
  have HG3:=Lib.hid (grownBy_trans HG2.out hg3)
  clear hs3 hg3 hy
  go_wp2
  go_ret
  exact⟨y,_,rfl,HN.out,HS3.out,HG3.out⟩
 ·obtain⟨q,hq⟩:∃q:Nat,nextV r.tail 28=q:=⟨(nextV r.tail 28).toNat,by have:=nextV_bd r.tail 28 (by omega);omega⟩
  have hqn:q<28:=by have:=nextV_bd r.tail 28 (by omega);omega
  have HQ:=Lib.hid hq
  clear hq
  have HN:Hid (scaB (poolL.getD q 0)=true):=pool_scalar q hqn
  obtain⟨y,hy⟩:∃y,poolL.getD q 0=y:=⟨_,rfl⟩
  rw[hy]at HN
  refine(next_at g r.tail 28 q _ HS2.out (by omega) (by omega) HQ).mono ?_
  rintro e w3 ⟨rfl,hs3,hg3⟩
  obtain⟨_,_,hbe,hck⟩:=(HI2.out.grown hg3 (by intro b off e;cases e;omega)) q hqn
  cases hbe
  rw[hy,Nat.zero_add]at hck
  have HS3:=Lib.hid hs3
  have HG3:=Lib.hid (grownBy_trans HG2.out hg3)
  clear hs3 hg3 hy
  go_wp2
  go_ret
  exact⟨y,_,rfl,HN.out,HS3.out,HG3.out⟩
 ·obtain⟨q,hq⟩:∃q:Nat,nextV r.tail 28=q:=⟨(nextV r.tail 28).toNat,by have:=nextV_bd r.tail 28 (by omega);omega⟩
  have hqn:q<28:=by have:=nextV_bd r.tail 28 (by omega);omega
  have HQ:=Lib.hid hq
  clear hq
  have HN:Hid (scaB (poolL.getD q 0)=true):=pool_scalar q hqn
  obtain⟨y,hy⟩:∃y,poolL.getD q 0=y:=⟨_,rfl⟩
  rw[hy]at HN
  refine(next_at g r.tail 28 q _ HS2.out (by omega) (by omega) HQ).mono ?_
  rintro e w3 ⟨rfl,hs3,hg3⟩
  obtain⟨_,_,hbe,hck⟩:=(HI2.out.grown hg3 (by intro b off e;cases e;omega)) q hqn
  cases hbe
  rw[hy,Nat.zero_add]at hck
  have HS3:=Lib.hid hs3
  have HG3:=Lib.hid (grownBy_trans HG2.out hg3)
  clear hs3 hg3 hy
  go_wp2
  go_ret
  exact⟨y,_,rfl,HN.out,HS3.out,HG3.out⟩
set_option maxRecDepth 100000 in
set_option maxHeartbeats 1000000 in
theorem clone_any (v : Value) (xs : List Int) (w : World) (hv : InV w v xs) :
  Calls Tryz.prog 264 #[v] w (GivesL xs w):=by
 obtain⟨p,c,rfl,hin,hl⟩:=hv
 have HI:=Lib.hid hin
 cases p with
 | none =>
  have hx:xs=[]:=by
   cases xs with
   | nil=>rfl
   | cons y r=>obtain⟨_,_,e,_⟩:=hin 0 (by simp);cases e
  subst hx
  clear hin
  have hcmp:∀W,(binOp .eql 22 (.slice none 0 c) (.slice none 0 0)).run Tryz.prog W = .ok (.bool true) W:=fun W=>Lib.run_eql_slice_nil (P:=Tryz.prog) W 22 3 none 0 c 0 0 Tryz.underlying22
  go_enter Tryz.func264,Tryz.ntmps264
  go_wp2
  go_ret
  exact⟨none,0,0,rfl,rfl,by omega,fun k hk=>absurd hk (Nat.not_lt_zero _),Below.refl _ _⟩
 | some a =>
  have HE:=Lib.hid (World.ownsRow_lit (base:=w.heap.size) (e:=3) (size:=1) w #[] 0 (Nat.le_refl _) (by unfold maxLen;omega) rfl)
  have HB0:=Lib.hid ((Below.refl w.heap.size w).alloc (Nat.le_refl _) (.cells #[] 3))
  have HIa:=Lib.hid (HI.out.below HB0.out)
  clear hin
  have hcmp:∀W,(binOp .eql 22 (.slice (some a) xs.length c) (.slice none 0 0)).run Tryz.prog W = .ok (.bool false) W:=fun W=>Lib.run_eql_slice_nil (P:=Tryz.prog) W 22 3 (some a) xs.length c 0 0 Tryz.underlying22
  go_enter Tryz.func264,Tryz.ntmps264
  go_wp2_with (at_builtin;refine wpList_append_ints _ _ rfl rfl w.heap.size (.slice (some ⟨w.heap.size,0,none⟩) 0 0) [] (by rfl) (by exact HE.out) (some a) xs.length c xs rfl (by rfl) (by exact HIa.out) (by simp;omega) (by simp) ?_;intro v1 w1 ho1 hg1)
  have hb1:=HB0.out.grown hg1 (by simp) (fun k e=>by have e2:some w.heap.size=some k:=e;injection e2 with e2;omega)
  obtain⟨p1,c1,rfl,hin1⟩:=ho1.inn
  have HI1:=Lib.hid hin1
  have HB1:=Lib.hid hb1
  have HL:=Lib.hid hl
  obtain⟨n,hn⟩:∃n,([]++xs).length=n:=⟨_,rfl⟩
  rw[hn]
  have HN:=Lib.hid hn
  clear ho1 hg1 hin1 hb1 hn hl
  go_wp2
  go_ret
  have h1:=HN.out
  have h2:=HL.out
  simp at h1
  exact⟨p1,n,c1,rfl,h1,by omega,HI1.out,HB1.out⟩
set_option maxHeartbeats 1000000 in
theorem seqOf_any (v : Value) (l : List Mp) (c : Int) (w : World) (hv : MpV w v l) (ha : ascI 0 1114111 (froms l) = true) :
  Calls Tryz.prog 224 #[v,.int .i64 c] w (GivesL (findM l c) w):=by
 obtain⟨p,cp,rfl,hin,hn⟩:=hv
 have HI:=Lib.hid hin
 have HA:=Lib.hid ha
 clear hin ha
 cases hh:hasM l c with
 | false =>
  have HF:Hid (findM l c=[]):=findM_nil hh
  have HH:=Lib.hid hh
  clear hh
  go_enter Tryz.func224,Tryz.ntmps224
  go_wp2_with fail
  refine(findMp_any _ l c _ ⟨p,cp,rfl,HI.out,hn⟩ HA.out).mono ?_
  rintro e w1 ⟨i,rfl,hi,hf,hb⟩
  rw[HH.out]
  have HB:=Lib.hid hb
  clear hb hf
  go_wp2
  go_ret
  rw[HF.out]
  exact⟨none,0,0,rfl,rfl,by omega,fun k hk=>absurd hk (Nat.not_lt_zero _),HB.out⟩
 | true =>
  have HH:=Lib.hid hh
  clear hh
  go_enter Tryz.func224,Tryz.ntmps224
  go_wp2_with fail
  refine(findMp_any _ l c _ ⟨p,cp,rfl,HI.out,hn⟩ HA.out).mono ?_
  rintro e w1 ⟨i,rfl,hi,hf,hb⟩
  obtain⟨hlt,hfr,hto⟩:=hf HH.out
  rw[HH.out]
  obtain⟨g,off,u,rfl,hc1,hc2,hu⟩:=(HI.out.below hb) i hlt
  have HU:=Lib.hid hu
  have HB:=Lib.hid hb
  have HT:=Lib.hid hto
  clear hb hc1 hfr hu hto
  go_wp2_with fail
  refine(clone_any u _ _ HU.out).mono ?_
  rintro e w2 ⟨p2,n2,c2,rfl,hl2,hn2,hin2,hb2⟩
  have HB2:=Lib.hid (HB.out.trans (hb2.mono HB.out.size))
  have HI2:=Lib.hid hin2
  have HL2:=Lib.hid hl2
  have HN2:=Lib.hid hn2
  clear hin2 hb2 hl2 hn2 hc2
  go_wp2
  go_ret
  rw[HT.out]
  exact⟨p2,n2,c2,rfl,HL2.out,HN2.out,HI2.out,HB2.out⟩
theorem lowc_at (c:Int) (w:World) (h:65≤c∧c≤90):Calls Tryz.prog 223 #[.int .i64 c] w fun e w'=>e = .returned (.int .i64 (c+32))∧w=w':=by
 have e1:IntKind.i64.wrap (c-65)=c-65:=IntWalk.i64_in _ (by omega)
 have e2:IntKind.i64.wrap (c-65+97)=c+32:=by rw[IntWalk.i64_in _ (by omega)];omega
 have e3:c-65+97=c+32:=by omega
 go_enter Tryz.func223,Tryz.ntmps223
 go_wp2
 go_ret
 exact⟨by simp[e3],rfl⟩
set_option maxHeartbeats 2000000 in
theorem tmaps_at (x : TV) (T : Tb) (c : Int) (xs : List Int) (w : World) (hx : TabV w x T) (ha : ascI 0 1114111 (froms T.map) = true) (hxs : Hid (mapsT T c = xs)) :
  Calls Tryz.prog 152 #[x.agg,.int .i64 c] w (GivesL xs w):=by
 have HE:=Lib.hid (Env.new hx)
 have k:=HE.out.at8
 have HA:=Lib.hid ha
 obtain⟨B,hB⟩:∃B,uppB c=B:=⟨_,rfl⟩
 have hu:=(upp_any c (w.alloc (.cells (tabCells x) 26)))
 rw[hB]at hu
 have HU:=Lib.hid hu
 clear hx ha hu
 simp only[TV.agg]
 cases B with
 | true =>
  have hc:=uppB_iff.1 hB
  have HX:Hid (xs=[c+32]):=by unfold Hid;rw[←hxs.out,mapsT,if_pos hB]
  clear hB
  go_enter Tryz.func152,Tryz.ntmps152
  go_wp2_with fail
  refine HU.out.mono ?_
  rintro e w1 ⟨rfl,rfl⟩
  go_wp2_with fail
  refine(lowc_at c _ hc).mono ?_
  rintro e w2 ⟨rfl,rfl⟩
  go_wp2
  go_ret
  rw[HX.out]
  refine⟨_,1,1,rfl,rfl,by omega,?_,HE.out.bel.alloc (by simp) _⟩
  have:=lit_ints (w.alloc (.cells (tabCells x) 26)) #[.int .i64 (c+32)] [c+32] 3 rfl
  simpa[tabCells] using this
 | false =>
  have HX:Hid (xs=findM T.map c):=by unfold Hid;rw[←hxs.out,mapsT,if_neg (by simp[hB])]
  clear hB
  go_enter Tryz.func152,Tryz.ntmps152
  go_wp2_with fail
  refine HU.out.mono ?_
  rintro e w1 ⟨rfl,rfl⟩
  go_wp2_with fail
  refine(seqOf_any x.a8 T.map c _ HE.out.tab.map HA.out).mono ?_
  rintro e w2 ⟨p2,n2,c2,rfl,hl2,hn2,hin2,hb2⟩
  have HB2:=Lib.hid (HE.out.step hb2)
  have HI2:=Lib.hid hin2
  have HL2:=Lib.hid hl2
  have HN2:=Lib.hid hn2
  clear hin2 hb2 hl2 hn2 k
  go_wp2
  go_ret
  rw[HX.out]
  exact⟨p2,n2,c2,rfl,HL2.out,HN2.out,HI2.out,HB2.out.bel⟩
def ordL (T:Tb) (l:List Int):List Int:=if accE T l=0 then ordS (clsT T) l else []
def srtB (T:Tb) (l:List Int):Bool:=decide (accE T l=0)&&decide (ordS (clsT T) l=l)
def opens (T:Tb) (l:List Int):List Bool:=l.map fun c=>decide (clsT T c≠0)
def runsL (T:Tb) (l:List Int):List Int:=if accE T l=0 then runsS (opens T l)else []
structure OSt (w0:World) (B1 B2:Nat) (vC vO:Value) (C O:List Int) (w:World):Prop where
 cls:Ints w B1 vC C
 ord:Ints w B2 vO O
 lo:∀b,vC.ownBlock=some b→b<B2
 bel:Below w0.heap.size w0 w
 h1:w0.heap.size≤B1
 h2:w0.heap.size≤B2
theorem OSt.wO {w0 w w':World} {B1 B2:Nat} {vC vO:Value} {C O O':List Int} (h:OSt w0 B1 B2 vC vO C O w) (hi:Ints w' B2 vO O') (hg:w.grownBy w' vO.ownBlock):OSt w0 B1 B2 vC vO C O' w':=by
 refine⟨World.ownsRow.kept h.cls hg ?_,hi,h.lo,h.bel.grown hg h.bel.size (fun k hk=>Nat.le_trans h.h2 (h.ord.base k hk)),h.h1,h.h2⟩
 cases hv:vC.ownBlock with
 | none=>exact .inl rfl
 | some b=>exact .inr (fun e=>by have a1:=h.lo b hv;have a2:=h.ord.base b e.symm;omega)
theorem OSt.wC {w0 w w':World} {B1 B2:Nat} {vC vO:Value} {C C' O:List Int} (h:OSt w0 B1 B2 vC vO C O w) (hi:Ints w' B1 vC C') (hg:w.grownBy w' vC.ownBlock):OSt w0 B1 B2 vC vO C' O w':=by
 refine⟨hi,World.ownsRow.kept h.ord hg ?_,h.lo,h.bel.grown hg h.bel.size (fun k hk=>Nat.le_trans h.h1 (h.cls.base k hk)),h.h1,h.h2⟩
 cases hv:vO.ownBlock with
 | none=>exact .inl rfl
 | some b=>exact .inr (fun e=>by have a1:=h.lo b e.symm;have a2:=h.ord.base b hv;omega)
theorem cls_pos {T:Tb} (h:checkT T=0) (c:Int):0≤clsT T c:=r3_cls (check_asc h).2 c
theorem getD_map_cls (T:Tb) (O:List Int) (k:Nat) (hk:k<O.length):(O.map (clsT T)).getD k 0=clsT T (O.getD k 0):=by
 simp[List.getD,List.getElem?_eq_getElem hk]
set_option maxRecDepth 100000 in
set_option maxHeartbeats 4000000 in
theorem order_at (x : TV) (T : Tb) (p : Option Addr) (cap : Nat) (zs : List Int) (E : Int) (L : List Int) (w : World) (hx : TabV w x T) (hr : Rsv w) (hin : IntsIn w p zs) (hl : zs.length ≤ 17592186043904)
  (hE:Hid (accE T zs=E)) (hL:Hid (ordL T zs=L)) :
  Calls Tryz.prog 226 #[x.agg,.slice p zs.length cap] w (LRet L E w):=by
 have HE:=Lib.hid (Env.new hx)
 have HI:=Lib.hid hin
 have HR:=Lib.hid hr
 obtain⟨C,hC⟩:∃C,Hid (clsL T zs=C):=⟨_,rfl⟩
 obtain⟨n,hn⟩:∃n,zs.length=n:=⟨_,rfl⟩
 have hcc:=fun W hw hr' hi=>classesOf_at x T p cap zs E C W hw hr' hi hl hE hC
 rw[hn]at hl hcc ⊢
 have HN:=Lib.hid hn
 have HCC:=Lib.hid hcc
 clear hx hr hin hn hcc
 simp only[TV.agg]
 go_enter Tryz.func226,Tryz.ntmps226
 obtain⟨⟨k0,k1,k2,k3,k4,k5⟩,⟨k6,k7,k8,k9,k10,k11⟩⟩:=HE.out.box.load
 go_wp2_with fail
 refine(HCC.out _ HE.out.tab (HR.out.below HE.out.bel) (HI.out.below HE.out.bel)).mono ?_
 rintro e w1 ⟨vC,rfl,hc1,hb1⟩
 have HZ:Hid (w.heap.size+1≤w1.heap.size):=by have:=hb1.size;unfold Hid;simpa using this
 have HC1:Hid (Ints w1 (w.heap.size+1) vC C):=by unfold Hid;simpa using hc1
 replace HE:=Lib.hid (HE.out.step hb1)
 clear hb1 hc1 k0 k1 k2 k3 k4 k5 k6 k7 k8 k9 k10 k11
 by_cases h0:E=0
 ·subst h0
  have HV:Hid (checkT T=0):=(accE_ok hE.out).1
  have hn4:n≤4096:=by rw[←HN.out];exact(accE_ok hE.out).2.1
  have HCK:Hid (C=zs.map (clsT T)):=by unfold Hid;rw[←hC.out];unfold clsL;rw[hE.out,if_pos rfl]
  have HLL:Hid (L=ordS (clsT T) zs):=by unfold Hid;rw[←hL.out];unfold ordL;rw[hE.out,if_pos rfl]
  have hmk:=run_make_ints0 n (by omega)
  obtain⟨pC,cC,hvC,hqC⟩:=HC1.out.inn
  clear hqC
  have hcl:C.length=n:=by rw[HCK.out,List.length_map];exact HN.out
  rw[hcl]at hvC
  subst hvC
  have hblk:w1.heap.size≤(w1.alloc (madeI n)).heap.size:=by simp
  clear hcl
  go_wp2_with (at_builtin;refine wpList_append_ints (.tmp 22) (.tmp 23) rfl rfl w1.heap.size (.slice (some ⟨w1.heap.size,0,none⟩) 0 n) [] rfl (Ints.made w1 w1.heap.size n (Nat.le_refl _) (by omega)) p n cap zs HN.out rfl ((HI.out.below HE.out.bel).alloc _) (by rw[HN.out];simp;omega) hblk ?_;intro v2 w2 ho2 hg2)
  rw[List.nil_append]at ho2
  have hst:OSt w (w.heap.size+1) w1.heap.size (.slice pC n cC) v2 C zs w2:=by
   have hg2':=hg2
   refine⟨?_,ho2,fun b hb=>(World.ownsRow.lt HC1.out b hb).2,?_,Nat.le_succ _,HE.out.bel.size⟩
   ·exact World.ownsRow.kept (World.ownsRow.alloc HC1.out _) hg2 (by
     cases hv:(Value.slice pC n cC).ownBlock with
     | none=>exact .inl rfl
     | some b=>exact .inr (fun e=>by have:=(World.ownsRow.lt HC1.out b hv).2;simp[Value.ownBlock]at e;omega))
   ·exact(HE.out.bel.alloc HE.out.bel.size _).grown hg2 (by have:=HE.out.bel.size;simp;omega) (fun k hk=>by have:=HE.out.bel.size;simp[Value.ownBlock]at hk;omega)
  obtain⟨pO,cO,hvO,hqO⟩:=ho2.inn
  clear hqO
  rw[HN.out]at hvO
  subst hvO
  have HST:Hid (OSt w (w.heap.size+1) w1.heap.size (.slice pC n cC) (.slice pO n cO) ((ordAt (clsT T) zs 0).map (clsT T)) (ordAt (clsT T) zs 0) w2):=by
   unfold Hid;rw[ordAt_zero,←HCK.out];exact hst
  generalize hB2:w1.heap.size=B2 at HST
  clear ho2 hg2 hst hmk
  go_wp2
  go_simp
  go_wp2
  go_loopw [9,10,27] (fun _ _ i wr=>∃k:Nat,k≤n∧i = .int .i64 k∧Hid (OSt w (w.heap.size+1) B2 (.slice pC n cC) (.slice pO n cO) ((ordAt (clsT T) zs k).map (clsT T)) (ordAt (clsT T) zs k) wr)) (fun _ _ i _=>n-(intOf i).toNat)
  case atStart=>exact⟨0,Nat.zero_le _,rfl,HST⟩
  case round =>
   obtain⟨k,hk,rfl,hs⟩:=hrel
   by_cases hlt:k<n
   ·have hol:(ordAt (clsT T) zs k).length=n:=by rw[ordAt_length];exact HN.out
    obtain⟨O,hO⟩:∃O,ordAt (clsT T) zs k=O:=⟨_,rfl⟩
    obtain⟨O2,hO2⟩:∃O,ordAt (clsT T) zs (k+1)=O:=⟨_,rfl⟩
    have hstep:=ordAt_step (clsT T) zs k (by rw[HN.out];exact hlt)
    rw[hO]at hs hol hstep
    rw[hO2]at hstep
    obtain⟨K,hK⟩:∃K,O.map (clsT T)=K:=⟨_,rfl⟩
    have hkl:K.length=n:=by rw[←hK,List.length_map];exact hol
    obtain⟨c,hc⟩:∃c,K.getD k 0=c:=⟨_,rfl⟩
    have hce:clsT T (O.getD k 0)=c:=by rw[←hc,←hK,getD_map_cls T O k (by omega)]
    have hc0:0≤c:=by rw[←hce];exact cls_pos HV.out _
    rw[hK]at hs hstep
    rw[hce]at hstep
    obtain⟨P,hP⟩:∃P,plc K c k=P:=⟨_,rfl⟩
    rw[hP]at hstep
    have hPk:P≤k:=by rw[←hP];exact plc_le _ _ _
    have hmap:mvb K k P=O2.map (clsT T):=by rw[←hK,←mvb_map (clsT T) O k P (by omega),hstep]
    obtain⟨q,cq,e1,hq⟩:=hs.out.cls.inn
    rw[hkl]at e1
    cases e1
    have HQ:=Lib.hid hq
    have HPP:=Lib.hid hP
    have HSTEP:=Lib.hid hstep
    have HMAP:=Lib.hid hmap
    have HKL:=Lib.hid hkl
    have HCC2:=Lib.hid hc
    have HOL:=Lib.hid hol
    have HO2:=Lib.hid hO2
    clear hO hO2 hstep hK hkl hc hce hP hmap hq hol
    go_wp2_with fail
    refine(placeOf_at pC n cC k P K c _ HQ.out HKL hl hlt HCC2 hc0 HPP).mono ?_
    rintro e w3 ⟨rfl,rfl⟩
    go_wp2_with fail
    refine(moveBack_any B2 (.slice pO n cO) O O2 k P _ hs.out.ord (by rw[HOL.out];exact hlt) hPk (by rw[HOL.out];omega) HSTEP).mono ?_
    rintro e w3 ⟨rfl,ho3,hg3⟩
    have HS3:=Lib.hid (hs.out.wO ho3 hg3)
    clear ho3 hg3
    go_wp2_with fail
    refine(moveBack_any (w.heap.size+1) (.slice pC n cC) K (O2.map (clsT T)) k P _ HS3.out.cls (by rw[HKL.out];exact hlt) hPk (by rw[HKL.out];omega) HMAP).mono ?_
    rintro e w4 ⟨rfl,ho4,hg4⟩
    have HS4:=Lib.hid (HS3.out.wC ho4 hg4)
    clear ho4 hg4
    go_wp2
    go_roundw
    case rel=>exact⟨k+1,by omega,by go_num,by rw[HO2.out];exact HS4⟩
    case measure=>simp[intOf];omega
   ·obtain rfl:k=n:=by omega
    have hend:ordAt (clsT T) zs k=L:=by rw[HLL.out,←HN.out,ordAt_end]
    have ho:Ints wr B2 (.slice pO k cO) L:=by rw[←hend];exact hs.out.ord
    have HO:=Lib.hid ho
    clear hend ho
    go_wp2
    go_ret2
    exact⟨_,rfl,HO.out.mono hs.out.h2,hs.out.bel⟩
 ·have d0:(E !=0)=true:=by simp[h0]
  have HLL:Hid (L=[]):=by unfold Hid;rw[←hL.out];unfold ordL;rw[hE.out,if_neg h0]
  clear h0
  go_wp2
  go_ret2
  rw[HLL.out]
  exact⟨_,rfl,Ints.nil _ _,HE.out.bel⟩
end Go.Proofs.YtblcoicaeeiojaaGreatDoor
namespace Go.Proofs.YtblcoicaeeiojaaGreatDoor
def nfdE (T:Tb) (l:List Int):Int:=if accE T l≠0 then accE T l else if 4096<(flatT T l).length then 7 else 0
def nfdL (T:Tb) (l:List Int):List Int:=if nfdE T l=0 then ordS (clsT T) (flatT T l)else []
theorem nfdE_acc {T:Tb} {l:List Int} (h:accE T l≠0):nfdE T l=accE T l:=if_pos h
theorem nfdE_full {T:Tb} {l:List Int} (h:accE T l=0) (hb:4096<(flatT T l).length):nfdE T l=7:=by
 unfold nfdE;rw[if_neg (by omega),if_pos hb]
theorem nfdE_ok {T:Tb} {l:List Int} (h:accE T l=0) (hb:(flatT T l).length≤4096):nfdE T l=0:=by
 unfold nfdE;rw[if_neg (by omega),if_neg (by omega)]
theorem nfdE_zero {T:Tb} {l:List Int} (h:nfdE T l=0):accE T l=0∧(flatT T l).length≤4096:=by
 unfold nfdE at h
 split at h
 ·omega
 ·split at h
  ·omega
  ·omega
theorem nfdL_ok {T:Tb} {l:List Int} (h:nfdE T l=0):nfdL T l=ordS (clsT T) (flatT T l):=if_pos h
theorem nfdL_err {T:Tb} {l:List Int} (h:nfdE T l≠0):nfdL T l=[]:=if_neg h
theorem nfdL_len (T:Tb) (l:List Int):(nfdL T l).length≤4096:=by
 unfold nfdL
 split
 ·rename_i h
  rw[ordS_length];exact(nfdE_zero h).2
 ·simp
theorem nfd_check {T:Tb} {l:List Int} (h:nfdE T l=0):checkT T=0:=(accE_ok (nfdE_zero h).1).1
theorem nfd_sca {T:Tb} {l:List Int} (h:nfdE T l=0):l.all scaB=true:=(accE_ok (nfdE_zero h).1).2.2
theorem nfd_acc {T:Tb} {l:List Int} (h:accE T l=0) (hb:(flatT T l).length≤4096):accE T (flatT T l)=0∧ordL T (flatT T l)=nfdL T l:=by
 obtain⟨h1,_,h3⟩:=accE_ok h
 have e:=accE_zero h1 hb (fin_sca (all_fin h1 h3))
 refine⟨e,?_⟩
 unfold ordL
 rw[if_pos e,nfdL_ok (nfdE_ok h hb)]
theorem nfd_fin {T:Tb} {l:List Int} (h:nfdE T l=0):∀x∈nfdL T l,Fin1 T x:=by
 rw[nfdL_ok h]
 exact ord_fin (all_fin (nfd_check h) (nfd_sca h))
end Go.Proofs.YtblcoicaeeiojaaGreatDoor
namespace Go.Proofs.YtblcoicaeeiojaaGreatDoor
open Go.RowKit
def wdP:List Int:=[97,98,109,110,111,114,48,120,121]
def wdQ:List Int:=[769,803,945,946,1072,1488,1576,1632,7680,7681,7682,19968,44032,8204,2381]
def wdA (r:List Int):Int × List Int :=
 if nextV r 2=0 then(wdP.getD (nextV r.tail 9).toNat 0,r.tail.tail) else(wdQ.getD (nextV r.tail 15).toNat 0,r.tail.tail)
theorem kw_next (g : Nat) (r : List Int) (n v : Int) (w : World) (hs : Src w g r) (h0 : 1 ≤ n) (h1 : n ≤ 1073741824) (hv : Hid (nextV r n = v)) :
  Calls Tryz.prog 30 #[.pointer (some ⟨g,0,none⟩),.int .i64 n] w (NextPost g v r.tail w):=hv.out▸next_any g r n w hs h0 h1
def WordOne (g:Nat) (c:Int) (r:List Int) (w:World) (e:Ending) (w':World):Prop :=
 e = .returned (.int .i64 c)∧Src w' g r∧w.grownBy w' (some g)
theorem kwlit:∀q (h:q<9),(((ByteArray.mk #[97,98,109,110,111,114,48,120,121])[q]'(h)).toNat:Int)=wdP.getD q 0∧0≤wdP.getD q 0∧wdP.getD q 0≤127:=by decide +kernel
set_option maxHeartbeats 1000000 in
theorem kword_at (g : Nat) (r r' : List Int) (c : Int) (w : World) (hs : Src w g r) (hA : Hid (wdA r = (c, r'))) :
  Calls Tryz.prog 43 #[.pointer (some ⟨g,0,none⟩)] w (WordOne g c r' w):=by
 have HS:=Lib.hid hs
 have hg:g<w.heap.size:=by obtain⟨_,_,_,_,_,_,_,h4,_⟩:=hs;exact World.block_lt_of_cell? w _ h4
 clear hs
 obtain⟨v0,v1⟩:=nextV_bd r 2 (by omega)
 have hv:nextV r 2=0∨nextV r 2=1:=by omega
 clear v0 v1
 rcases hv with hv|hv
 ·have hA':=hA.out
  unfold wdA at hA'
  rw[if_pos hv]at hA'
  injection hA' with e1 e2
  obtain⟨q,hq⟩:∃q:Nat,nextV r.tail 9=q:=⟨(nextV r.tail 9).toNat,by have:=nextV_bd r.tail 9 (by omega);omega⟩
  have hq12:q<9:=by have:=nextV_bd r.tail 9 (by omega);omega
  rw[hq,Int.toNat_natCast]at e1
  obtain⟨k1,k2,k3⟩:=kwlit q hq12
  rw[e1]at k1 k2 k3
  have HV:=Lib.hid hv
  have HQ:=Lib.hid hq
  have HR:=Lib.hid e2
  obtain⟨y,hy⟩:∃y:Int,(((ByteArray.mk #[97,98,109,110,111,114,48,120,121])[q]'(hq12)).toNat:Int)=y:=⟨_,rfl⟩
  have HY:Hid (y=c):=by unfold Hid;rw[←hy,k1]
  have hy0:0≤y:=by have:=HY.out;omega
  have hy1:y≤127:=by have:=HY.out;omega
  clear hA hq e1 e2 hv k1 k2 k3
  go_enter Tryz.func43,Tryz.ntmps43
  go_wp2_with fail
  refine(kw_next g r 2 _ _ HS.out (by omega) (by omega) HV).mono ?_
  rintro e w2 ⟨rfl,hs2,hg2⟩
  have HS2:=Lib.hid hs2
  have HG2:=Lib.hid hg2
  clear hs2 hg2
  go_wp2_with fail
  refine(kw_next g r.tail 9 q _ HS2.out (by omega) (by omega) HQ).mono ?_
  rintro e w3 ⟨rfl,hs3,hg3⟩
  have HS3:=Lib.hid hs3
  have HG3:=Lib.hid (grownBy_trans HG2.out hg3)
  clear hs3 hg3
  go_wp2
  go_ret
  exact⟨by rw[HY.out];rfl,by rw[←HR.out];exact HS3.out,HG3.out⟩
 ·have hA':=hA.out
  unfold wdA at hA'
  rw[if_neg (by omega)]at hA'
  injection hA' with e1 e2
  obtain⟨q,hq⟩:∃q:Nat,nextV r.tail 15=q:=⟨(nextV r.tail 15).toNat,by have:=nextV_bd r.tail 15 (by omega);omega⟩
  have hq15:q<15:=by have:=nextV_bd r.tail 15 (by omega);omega
  rw[hq,Int.toNat_natCast]at e1
  have HV:=Lib.hid hv
  have HQ:=Lib.hid hq
  have HR:=Lib.hid e2
  have HE1:=Lib.hid e1
  clear hA hq e1 e2 hv
  go_enter Tryz.func43,Tryz.ntmps43
  go_wp2_with fail
  refine(kw_next g r 2 _ _ HS.out (by omega) (by omega) HV).mono ?_
  rintro e w2 ⟨rfl,hs2,hg2⟩
  have HS2:=Lib.hid hs2
  have HG2:=Lib.hid hg2
  clear hs2 hg2
  go_wp2_with fail
  refine(kw_next g r.tail 15 q _ (HS2.out.alloc _) (by omega) (by omega) HQ).mono ?_
  rintro e w3 ⟨rfl,hs3,hg3⟩
  obtain⟨_,_,hbe,hck⟩:=((lit_ints w2 #[.int .i64 769,.int .i64 803,.int .i64 945,.int .i64 946,.int .i64 1072,.int .i64 1488,.int .i64 1576,.int .i64 1632,.int .i64 7680,.int .i64 7681,.int .i64 7682,.int .i64 19968,.int .i64 44032,.int .i64 8204,.int .i64 2381] wdQ _ rfl).grown hg3 (by intro b off e;cases e;have:=HG2.out.size;omega)) q hq15
  cases hbe
  rw[HE1.out,Nat.zero_add]at hck
  have HS3:=Lib.hid hs3
  have HG3:=Lib.hid (grownBy_trans (grownBy_trans HG2.out (World.grownBy_alloc _ _ _)) hg3)
  clear hs3 hg3
  go_wp2
  go_ret
  exact⟨rfl,by rw[←HR.out];exact HS3.out,HG3.out⟩
end Go.Proofs.YtblcoicaeeiojaaGreatDoor
namespace Go.Proofs.YtblcoicaeeiojaaGreatDoor
def map1 (T:Tb) (c:Int):List Int:=if staT T c=3 then mapsT T c else if staT T c=1∨staT T c=4 then [c]else []
def mapF (T:Tb) (l:List Int):List Int:=l.flatMap (map1 T)
def badK (T:Tb):Nat→List Int→Option Nat
 | _,[]=>none
 | k,c::r=>if staT T c=0 then some k else badK T (k+1) r
def mapR (T:Tb) (l:List Int):List Int × Nat × Int :=
 if accE T l≠0 then([],0,accE T l)else match badK T 0 l with
  | some i=>([],i,16)
  | none=>if 4096<(mapF T l).length then([],0,7) else(mapF T l,0,0)
theorem badK_none {T:Tb}:∀(k:Nat) (l:List Int),badK T k l=none↔∀c∈l,staT T c≠0
 | _,[]=>by simp[badK]
 | k,c::r=>by
  rw[badK]
  by_cases h:staT T c=0
  ·rw[if_pos h];simp[h]
  ·rw[if_neg h,badK_none (k+1) r];simp[h]
theorem mapF_append (T:Tb) (a b:List Int):mapF T (a++b)=mapF T a++mapF T b:=by unfold mapF;rw[List.flatMap_append]
theorem map1_sca {T:Tb} (h:checkT T=0) {c:Int} (hc:scaB c=true):(map1 T c).length≤18∧∀y∈map1 T c,scaB y=true:=by
 have h4:=(check_rules h).2.2.2.1
 unfold map1
 split
 ·unfold mapsT
  split
  ·rename_i hu
   have:=uppB_iff.1 hu
   refine⟨by simp,fun y hy=>?_⟩
   rw[List.mem_singleton]at hy
   subst hy
   unfold scaB;simp;omega
  ·by_cases hm:findM T.map c=[]
   ·rw[hm];exact⟨by simp,fun y hy=>by cases hy⟩
   ·have hmem:=findM_mem hm
    unfold r4 at h4
    simp only[Bool.and_eq_true]at h4
    have:=List.all_eq_true.1 h4.2.1 _ hmem
    unfold seqS at this
    simp only[Bool.and_eq_true,decide_eq_true_eq]at this
    exact⟨this.1.2,fun y hy=>List.all_eq_true.1 this.2 y hy⟩
 ·split
  ·refine⟨by simp,fun y hy=>?_⟩
   rw[List.mem_singleton]at hy
   subst hy
   exact hc
  ·exact⟨by simp,fun y hy=>by cases hy⟩
theorem mapF_sca {T:Tb} (h:checkT T=0):∀(l:List Int),l.all scaB=true→(mapF T l).length≤18*l.length∧(mapF T l).all scaB=true
 | [],_=>by simp[mapF]
 | c::r,hl=>by
  simp only[List.all_cons,Bool.and_eq_true]at hl
  obtain⟨h1,h2⟩:=map1_sca h hl.1
  obtain⟨h3,h4⟩:=mapF_sca h r hl.2
  have e:mapF T (c::r)=map1 T c++mapF T r:=by unfold mapF;rw[List.flatMap_cons]
  rw[e]
  refine⟨by rw[List.length_append,List.length_cons];omega,?_⟩
  rw[List.all_append,h4,List.all_eq_true.2 h2];rfl
theorem mapF_same {T:Tb}:∀ {l:List Int},(∀y∈l,staT T y=1∨staT T y=4)→mapF T l=l
 | [],_=>rfl
 | c::r,h=>by
  have e:mapF T (c::r)=map1 T c++mapF T r:=by unfold mapF;rw[List.flatMap_cons]
  have hc:=h c (by simp)
  rw[e,mapF_same (fun y hy=>h y (by simp[hy]))]
  unfold map1
  rw[if_neg (by omega),if_pos hc];rfl
theorem mapR_mk {T:Tb} {l:List Int} (h1:accE T l=0) (h2:badK T 0 l=none) (h3:(mapF T l).length≤4096):mapR T l=(mapF T l,0,0):=by
 unfold mapR
 rw[if_neg (by omega),h2]
 simp only
 rw[if_neg (by omega)]
end Go.Proofs.YtblcoicaeeiojaaGreatDoor
namespace Go.Proofs.YtblcoicaeeiojaaGreatDoor
open Go.RowKit
def RawPost (w:World) (e:Ending) (w':World):Prop:=∃S:ByteArray,e = .returned (.string S)∧S.size≤90∧Below w.heap.size w w'
theorem enc_size (c:Int):(encodeS [c]).1.size≤4:=by
 unfold encodeS
 rw[if_neg (by simp)]
 split
 ·rw[strOfNums_size];exact flat_bd [c]
 ·simp
theorem lit_strs (w:World) (C:Array Value) (L:List ByteArray) (t:TypeId) (h:C.toList=L.map Value.string):StrIn (w.alloc (.cells C t)) (some ⟨w.heap.size,0,none⟩) L:=by
 intro k hk
 refine⟨_,_,rfl,?_⟩
 rw[Nat.zero_add,World.cell?_alloc_new,←Array.getElem?_toList,h]
 simp[hk]
def rawP:List ByteArray:=[.mk #[120,110,45,45,98,99,104,101,114,45,107,118,97],.mk #[88,78,45,45,97],.mk #[120,110,45,45],.mk #[120,110,45,45,97,98,99,45],.mk #[97,45,45,98],.mk #[45,97],.mk #[97,98,45,45,99],.mk #[120,110,45,45,109,103,98,97]]
def rawQ:List ByteArray:=[.mk #[195],.mk #[237,160,128],.mk #[],.mk #[65,45,98],.mk #[32],.mk #[226,128,141]]
theorem rawP_size:∀q,q<8→(rawP.getD q ByteArray.empty).size≤13:=by decide +kernel
theorem rawQ_size:∀q,q<6→(rawQ.getD q ByteArray.empty).size≤13:=by decide +kernel
theorem raw_cell {w w' : World} {g q : Nat} {C : Array Value} {L : List ByteArray} {t : TypeId} (hg : g < w.heap.size) (h : C.toList = L.map Value.string) (hq : q < L.length) (hgr : (w.alloc (.cells C t)).grownBy w' (some g)) :
  w'.cell? ⟨w.heap.size,q,none⟩=some (.string (L.getD q ByteArray.empty)):=by
 obtain⟨b,off,e,hc⟩:=lit_strs w C L t h q hq
 cases e
 rw[Nat.zero_add]at hc
 exact hgr.cell hc (by intro e;cases e;exact absurd hg (Nat.lt_irrefl _))
set_option maxRecDepth 100000 in
set_option maxHeartbeats 4000000 in
theorem kraw_any (p : Option Addr) (cap : Nat) (zs : List Int) (w : World) (hin : IntsIn w p zs) (hl : zs.length ≤ 17592186043904) :
  Calls Tryz.prog 14 #[.slice p zs.length cap] w (RawPost w):=by
 have HI:=Lib.hid hin
 clear hin
 obtain⟨v0,v1⟩:=nextV_bd zs 3 (by omega)
 obtain⟨n,hn⟩:∃n:Nat,nextV zs 3=n:=⟨(nextV zs 3).toNat,by omega⟩
 have hn2:n≤2:=by omega
 have HN:=Lib.hid hn
 clear v0 v1 hn
 go_enter Tryz.func14,Tryz.ntmps14
 go_wp2_with fail
 refine(from_any p cap zs _ HI.out hl).mono ?_
 rintro e w1 ⟨g,rfl,hg,hs1,hb1⟩
 have HS1:=Lib.hid hs1
 have HB1:=Lib.hid hb1
 clear hs1 hb1
 go_wp2_with fail
 refine(next_at g zs 3 n _ HS1.out (by omega) (by omega) HN).mono ?_
 rintro e w2 ⟨rfl,hs2,hg2⟩
 have hb2:Below w.heap.size w w2:=HB1.out.grown hg2 HB1.out.size (by intro k e;cases e;exact hg)
 have HS2:=Lib.hid hs2
 have HB2:=Lib.hid hb2
 clear hs2 hb2 hg2
 go_wp2
 go_loopw [4,5] (fun v m wr=>∃(k:Nat) (S:ByteArray) (r:List Int),k≤3∧m = .int .i64 k∧v = .string S∧S.size+30*k≤90∧Hid (Src wr g r)∧Hid (Below w.heap.size w wr)) (fun _ m _=>(intOf m).toNat)
 case atStart=>exact⟨1+n,ByteArray.empty,zs.tail,by omega,by go_num,rfl,by simp;omega,HS2,HB2⟩
 case round =>
  obtain⟨k,S,r,hk,rfl,rfl,hsz,hs,hbel⟩:=hrel
  by_cases h0:0<k
  ·obtain⟨t,ht⟩:∃t,nextV r 8=t:=⟨_,rfl⟩
   obtain⟨t0,t1⟩:=nextV_bd r 8 (by omega)
   rw[ht]at t0 t1
   have HT:=Lib.hid ht
   clear ht
   go_wp2_with fail
   refine(next_at g r 8 t _ hs.out (by omega) (by omega) HT).mono ?_
   rintro e w3 ⟨rfl,hs3,hg3⟩
   have hb3:Below w.heap.size w w3:=hbel.out.grown hg3 hbel.out.size (by intro k e;cases e;exact hg)
   have HS3:=Lib.hid hs3
   have HB3:=Lib.hid hb3
   clear hs3 hg3 hb3 hs hbel HT
   go_upto_block 2 with(fail)
   go_cut [4] (fun v wx=>∃(S':ByteArray) (r':List Int),v = .string S'∧S'.size≤S.size+20∧Hid (Src wx g r')∧Hid (Below w.heap.size w wx))
   case first =>
    have hgl:=HS3.out.lt
    by_cases e0:t=0
    ·subst e0
     obtain⟨q,hq⟩:∃q:Nat,nextV r.tail 8=q:=⟨(nextV r.tail 8).toNat,by have:=nextV_bd r.tail 8 (by omega);omega⟩
     have hq8:q<8:=by have:=nextV_bd r.tail 8 (by omega);omega
     have HQ:=Lib.hid hq
     obtain⟨X,hX⟩:∃X,rawP.getD q ByteArray.empty=X:=⟨_,rfl⟩
     have hXs:X.size≤13:=by rw[←hX];exact rawP_size q hq8
     have HX:=Lib.hid hX
     clear hq hX
     go_wp2_with fail
     refine(next_at g r.tail 8 q _ (HS3.out.alloc _) (by omega) (by omega) HQ).mono ?_
     rintro e w4 ⟨rfl,hs4,hg4⟩
     have hcl:=raw_cell (L:=rawP) hgl rfl hq8 hg4
     rw[HX.out]at hcl
     have hb4:Below w.heap.size w w4:=(HB3.out.alloc HB3.out.size _).grown hg4 (by have:=HB3.out.size;simp;omega) (by intro k e;cases e;exact hg)
     have HS4:=Lib.hid hs4
     have HB4:=Lib.hid hb4
     clear hs4 hg4 hb4
     go_wp2_with fail
     go_meet
     exact⟨_,_,rfl,by rw[ByteArray.size_append];omega,HS4,HB4⟩
    ·have f0:(t==0)=false:=by simp[e0]
     by_cases e1:t=1
     ·subst e1
      obtain⟨q,hq⟩:∃q:Nat,nextV r.tail 6=q:=⟨(nextV r.tail 6).toNat,by have:=nextV_bd r.tail 6 (by omega);omega⟩
      have hq8:q<6:=by have:=nextV_bd r.tail 6 (by omega);omega
      have HQ:=Lib.hid hq
      obtain⟨X,hX⟩:∃X,rawQ.getD q ByteArray.empty=X:=⟨_,rfl⟩
      have hXs:X.size≤13:=by rw[←hX];exact rawQ_size q hq8
      have HX:=Lib.hid hX
      clear hq hX
      go_wp2_with fail
      refine(next_at g r.tail 6 q _ (HS3.out.alloc _) (by omega) (by omega) HQ).mono ?_
      rintro e w4 ⟨rfl,hs4,hg4⟩
      have hcl:=raw_cell (L:=rawQ) hgl rfl hq8 hg4
      rw[HX.out]at hcl
      have hb4:Below w.heap.size w w4:=(HB3.out.alloc HB3.out.size _).grown hg4 (by have:=HB3.out.size;simp;omega) (by intro k e;cases e;exact hg)
      have HS4:=Lib.hid hs4
      have HB4:=Lib.hid hb4
      clear hs4 hg4 hb4
      go_wp2_with fail
      go_meet
      exact⟨_,_,rfl,by rw[ByteArray.size_append];omega,HS4,HB4⟩
     ·have f1:(t==1)=false:=by simp[e1]
      by_cases e2:t=2∨t=3
      ·obtain⟨q,hq⟩:∃q:Nat,nextV r.tail 4=q:=⟨(nextV r.tail 4).toNat,by have:=nextV_bd r.tail 4 (by omega);omega⟩
       have hq8:q<4:=by have:=nextV_bd r.tail 4 (by omega);omega
       have HQ:=Lib.hid hq
       clear hq f0 f1 e0 e1 t0 t1
       rcases e2 with rfl|rfl
       all_goals
        go_wp2_with fail
        refine(next_at g r.tail 4 q _ HS3.out (by omega) (by omega) HQ).mono ?_
        rintro e w4 ⟨rfl,hs4,hg4⟩
        have hb4:Below w.heap.size w w4:=HB3.out.grown hg4 HB3.out.size (by intro k e;cases e;exact hg)
        have HS4:=Lib.hid hs4
        have HB4:=Lib.hid hb4
        clear hs4 hg4 hb4
        go_wp2
        go_loopw [4,6] (fun v m wr=>∃(j:Nat) (S':ByteArray) (r:List Int),j≤4∧m = .int .i64 j∧v = .string S'∧S'.size+4*j≤S.size+20∧Hid (Src wr g r)∧Hid (Below w.heap.size w wr)) (fun _ m _=>(intOf m).toNat)
        case atStart=>exact⟨1+q,S,r.tail.tail,by omega,by go_num,rfl,by omega,HS4,HB4⟩
        case round =>
         obtain⟨j,S',r5,hj,rfl,rfl,hsz5,hs5,hb5⟩:=hrel
         by_cases h5:0<j
         ·obtain⟨i,rfl⟩:∃i,j=i+1:=⟨j-1,by omega⟩
          go_wp2_with fail
          refine(point_any g r5 _ hs5.out).mono ?_
          rintro e w6 ⟨c,r6,rfl,_,hs6,hg6⟩
          have hb6:Below w.heap.size w w6:=hb5.out.grown hg6 hb5.out.size (by intro k e;cases e;exact hg)
          have HS6:=Lib.hid (hs6.alloc (.cells #[.int .i64 c] 3))
          have HB6:=Lib.hid (hb6.alloc hb6.size (.cells #[.int .i64 c] 3))
          have HI6:=Lib.hid (lit_ints w6 #[.int .i64 c] [c] 3 rfl)
          have hec:=enc_size c
          obtain⟨U,hU⟩:∃U,(encodeS [c]).1=U:=⟨_,rfl⟩
          obtain⟨F,hF⟩:∃U,(encodeS [c]).2=U:=⟨_,rfl⟩
          rw[hU]at hec
          have hre:=fun W h1=>refEncode_any (some ⟨w6.heap.size,0,none⟩) 1 [c] W h1 (by simp[maxLen])
          rw[hU,hF]at hre
          have HRE:=Lib.hid hre
          clear hs6 hg6 hb6 hU hF hs5 hb5 hre
          go_wp2_with fail
          refine(HRE.out _ HI6.out).mono ?_
          rintro e w7 ⟨rfl,hb⟩
          have HS7:=Lib.hid (HS6.out.below hb)
          have HB7:=Lib.hid (HB6.out.trans (hb.mono HB6.out.size))
          clear hb HI6 HRE
          go_wp2
          go_roundw
          case rel=>exact⟨i,_,r6,by omega,by go_num,rfl,by rw[ByteArray.size_append];omega,HS7,HB7⟩
          case measure=>simp[intOf]
         ·obtain rfl:j=0:=by omega
          go_wp2_with fail
          go_meet
          exact⟨_,_,rfl,by omega,hs5,hb5⟩
      ·have f2:(t==2)=false:=by simp;omega
       have f3:(t==3)=false:=by simp;omega
       obtain⟨q,hq⟩:∃q:Nat,nextV r.tail 5=q:=⟨(nextV r.tail 5).toNat,by have:=nextV_bd r.tail 5 (by omega);omega⟩
       have hq8:q<5:=by have:=nextV_bd r.tail 5 (by omega);omega
       have HQ:=Lib.hid hq
       clear hq e0 e1 e2 t0 t1
       go_wp2_with fail
       refine(next_at g r.tail 5 q _ HS3.out (by omega) (by omega) HQ).mono ?_
       rintro e w4 ⟨rfl,hs4,hg4⟩
       have hb4:Below w.heap.size w w4:=HB3.out.grown hg4 HB3.out.size (by intro k e;cases e;exact hg)
       have HS4:=Lib.hid hs4
       have HB4:=Lib.hid hb4
       clear hs4 hg4 hb4
       go_wp2
       go_loopw [4,9] (fun v m wr=>∃(j:Nat) (S':ByteArray) (r:List Int),j≤5∧m = .int .i64 j∧v = .string S'∧S'.size+4*j≤S.size+20∧Hid (Src wr g r)∧Hid (Below w.heap.size w wr)) (fun _ m _=>(intOf m).toNat)
       case atStart=>exact⟨1+q,S,r.tail.tail,by omega,by go_num,rfl,by omega,HS4,HB4⟩
       case round =>
        obtain⟨j,S',r5,hj,rfl,rfl,hsz5,hs5,hb5⟩:=hrel
        by_cases h5:0<j
        ·obtain⟨i,rfl⟩:∃i,j=i+1:=⟨j-1,by omega⟩
         obtain⟨c,r6,hA⟩:∃c r',Hid (wdA r5=(c,r')):=⟨_,_,rfl⟩
         go_wp2_with fail
         refine(kword_at g r5 r6 c _ hs5.out hA).mono ?_
         rintro e w6 ⟨rfl,hs6,hg6⟩
         have hb6:Below w.heap.size w w6:=hb5.out.grown hg6 hb5.out.size (by intro k e;cases e;exact hg)
         have HS6:=Lib.hid (hs6.alloc (.cells #[.int .i64 c] 3))
         have HB6:=Lib.hid (hb6.alloc hb6.size (.cells #[.int .i64 c] 3))
         have HI6:=Lib.hid (lit_ints w6 #[.int .i64 c] [c] 3 rfl)
         have hec:=enc_size c
         obtain⟨U,hU⟩:∃U,(encodeS [c]).1=U:=⟨_,rfl⟩
         obtain⟨F,hF⟩:∃U,(encodeS [c]).2=U:=⟨_,rfl⟩
         rw[hU]at hec
         have hre:=fun W h1=>refEncode_any (some ⟨w6.heap.size,0,none⟩) 1 [c] W h1 (by simp[maxLen])
         rw[hU,hF]at hre
         have HRE:=Lib.hid hre
         clear hs6 hg6 hb6 hU hF hs5 hb5 hre hA
         go_wp2_with fail
         refine(HRE.out _ HI6.out).mono ?_
         rintro e w7 ⟨rfl,hb⟩
         have HS7:=Lib.hid (HS6.out.below hb)
         have HB7:=Lib.hid (HB6.out.trans (hb.mono HB6.out.size))
         clear hb HI6 HRE
         go_wp2
         go_roundw
         case rel=>exact⟨i,_,r6,by omega,by go_num,rfl,by rw[ByteArray.size_append];omega,HS7,HB7⟩
         case measure=>simp[intOf]
        ·obtain rfl:j=0:=by omega
         go_wp2_with fail
         go_meet
         exact⟨_,_,rfl,by omega,hs5,hb5⟩
   case rest =>
    obtain⟨S',r',rfl,hsz',hs',hb'⟩:=hcut
    clear HS3 HB3
    by_cases h1:1<k
    ·go_wp2
     go_roundw
     case rel=>exact⟨k-1,_,r',by omega,by go_num,rfl,by rw[ByteArray.size_append,show (ByteArray.mk #[46]).size=1 from rfl];omega,hs',hb'⟩
     case measure=>simp[intOf];omega
    ·obtain rfl:k=1:=by omega
     go_wp2
     go_roundw
     case rel=>exact⟨0,S',r',by omega,by go_num,rfl,by omega,hs',hb'⟩
     case measure=>simp[intOf]
  ·obtain rfl:k=0:=by omega
   go_wp2
   go_ret
   exact⟨S,rfl,by omega,hbel.out⟩
end Go.Proofs.YtblcoicaeeiojaaGreatDoor
