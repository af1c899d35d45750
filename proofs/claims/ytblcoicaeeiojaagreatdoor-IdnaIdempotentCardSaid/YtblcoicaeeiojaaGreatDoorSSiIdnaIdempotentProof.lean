/-
  IdnaIdempotent: ToASCII and ToUnicode of the results of both are the same results. No condition but what the card ties: every input that the statement speaks of.
  The frame of the row's proof and the card; the walk stands in YtblcoicaeeiojaaGreatDoorIdnaIdempotentWalk.
-/
import Derived.Test.YtblcoicaeeiojaaGreatDoorRows
import Derived.Test.YtblcoicaeeiojaaGreatDoorCards
import Derived.Test.YtblcoicaeeiojaaGreatDoorTie
import Derived.Test.YtblcoicaeeiojaaGreatDoorSSiIdnaIdempotentWalk
import Derived.WalkKit
import Derived.ProofKit
import Derived.OpenShut
import Derived.SizedLaws
import Derived.ShutString
import Derived.ChangeOld
import Derived.Below
import Derived.LaidMore
import Derived.SevenTiedAt
set_option linter.unusedSimpArgs false
set_option linter.unusedVariables false
namespace Go.Proofs.YtblcoicaeeiojaaGreatDoor.idnaIdempotent
open Go.ChangeShapes Go.WideShapes Go.ChangeAt Go.RowKit
set_option linter.unusedVariables false
theorem bytesInt:Tryz.prog.bytesOf 3=8:=by kernel_rfl
theorem own:ownKnob Tryz.prog.godebug=none:=by kernel_rfl
theorem laidOut:laidOutB Tryz.prog=true:=by kernel_rfl
theorem gRes : Tryz.prog.globalNamed "namedesk/table.reserved" = some 0 := by kernel_rfl
theorem tRes:(Tryz.prog.globals[0]?).map (·.type)=some 204:=by kernel_rfl
theorem door_met (os:Os) (args:Array Value):laidMetH Tryz.prog Rows.idnaIdempotentRow.laid ((World.doorLaid Tryz.prog 20 os).forCall (fun _ _=>0) ⟨#[],args,[]⟩).memory :=
 laidMetH_of_parts3 (fuel:=8) (laidMet_of_run' 8 (by kernel_rfl) (by kernel_rfl)) (by kernel_rfl) (by kernel_rfl)
theorem cellPair_at {H : Type} {enc : TypeId × Value → H} {W : World} {base m : Nat} {spare : Nat → Bool} {held : Bool} {cs : List Value} {a b : Int} {q : List MemPlace}
  (h:DataW.trod enc Tryz.prog W base spare held m 203 cs=some (.agg [.lit (.int .i64 a),.lit (.int .i64 b)],q)):cs=[.int .i64 a,.int .i64 b]:=by
 obtain⟨y0,y1,n,hx1,hlen,h0,h1⟩:=trod_struct2 Tryz.underlying203 h
 have c2:Tryz.prog.cellsOf 203=2:=by kernel_rfl
 have c1:Tryz.prog.cellsOf 3=1:=by kernel_rfl
 simp only[c1]at h0 h1
 rw[c2]at hlen
 simp only[Prod.mk.injEq,DataW.agg.injEq,List.cons.injEq]at hx1
 match cs,hlen,h0,h1 with
 | [u0,u1],_,h0,h1 =>
  simp at h0 h1
  obtain⟨k,e1,e2,_⟩:=DataW.trod_int Tryz.underlying3 h0
  obtain⟨k',e3,e4,_⟩:=DataW.trod_int Tryz.underlying3 h1
  have g0:=hx1.1.1
  have g1:=hx1.1.2.1
  rw[e2]at g0
  rw[e4]at g1
  simp at g0 g1 e1 e3
  rw[e1,e3,g0,g1]
set_option maxRecDepth 20000 in
theorem of_laid {W:World} (h:laidMetH Tryz.prog Rows.idnaIdempotentRow.laid W):Rsv W:=by
 rw[MakeChecks.laidMetH_plain _ _ _ (by kernel_rfl)]at h
 obtain⟨ps,⟨g0,t0,cs0,f0,p0,q0,hg0,ht0,hv0,hd0,_,_⟩,_,_⟩:=h
 obtain rfl:=Option.some.inj (gRes.symm.trans hg0)
 obtain rfl:=Option.some.inj (tRes.symm.trans ht0)
 obtain⟨xs,m1,rfl,hx1,hlen,hn,hel⟩:=DataW.trod_array Tryz.underlying204 hd0
 have c2:Tryz.prog.cellsOf 203=2:=by kernel_rfl
 have c12:Tryz.prog.cellsOf 204=12:=by kernel_rfl
 rw[c12]at hlen
 have hcell:=World.var?_cell hg0 hv0
 obtain⟨l⟩:=cs0
 simp only[Prod.mk.injEq]at hx1
 have h0:=hel 0 (by decide)
 have h1:=hel 1 (by decide)
 have h2:=hel 2 (by decide)
 have h3:=hel 3 (by decide)
 have h4:=hel 4 (by decide)
 have h5:=hel 5 (by decide)
 rw[c2]at h0 h1 h2 h3 h4 h5
 have hx2:DataW.agg [.agg [.lit (.int .i64 0),.lit (.int .i64 127)],.agg [.lit (.int .i64 4352),.lit (.int .i64 4370)],.agg [.lit (.int .i64 4449),.lit (.int .i64 4469)],.agg [.lit (.int .i64 4520),.lit (.int .i64 4546)],.agg [.lit (.int .i64 44032),.lit (.int .i64 55203)],.agg [.lit (.int .i64 55296),.lit (.int .i64 57343)]]=DataW.agg (xs.map (·.1)):=hx1.1
 match xs,hn,l,hlen,hx2,h0,h1,h2,h3,h4,h5 with
 | [(d0,r0),(d1,r1),(d2,r2),(d3,r3),(d4,r4),(d5,r5)],_,[u0,u1,u2,u3,u4,u5,u6,u7,u8,u9,u10,u11],_,hx2,h0,h1,h2,h3,h4,h5 =>
  simp only[List.map_cons,List.map_nil,DataW.agg.injEq,List.cons.injEq]at hx2
  obtain⟨rfl,rfl,rfl,rfl,rfl,rfl,_⟩:=hx2
  have e0:=cellPair_at h0
  have e1:=cellPair_at h1
  have e2:=cellPair_at h2
  have e3:=cellPair_at h3
  have e4:=cellPair_at h4
  have e5:=cellPair_at h5
  simp at e0 e1 e2 e3 e4 e5
  obtain⟨rfl,rfl⟩:=e0
  obtain⟨rfl,rfl⟩:=e1
  obtain⟨rfl,rfl⟩:=e2
  obtain⟨rfl,rfl⟩:=e3
  obtain⟨rfl,rfl⟩:=e4
  obtain⟨rfl,rfl⟩:=e5
  exact⟨⟨hcell 0,hcell 1,hcell 2,hcell 3,hcell 4,hcell 5⟩,⟨hcell 6,hcell 7,hcell 8,hcell 9,hcell 10,hcell 11⟩⟩
set_option maxRecDepth 100000 in
theorem lifted (os : Os) (started : os.Started) (H : Type) (enc : TypeId × Value → H) :
  ReturnsInHanded {} Tryz.checked os 6 .any (fun w args=>(Rows.idnaIdempotentSpec.pre enc Tryz.prog Tryz.f6 [] false w args∧laidMetH Tryz.prog Rows.idnaIdempotentRow.laid w)∧sizedMet enc Tryz.prog Tryz.f6 (OpenSpec.ofChange Rows.idnaIdempotentSpec) false w args)
   (Rows.idnaIdempotentSpec.post enc Tryz.prog Tryz.f6 false true false false):=by
 refine returnsInHanded_of_change_and (C:=Tryz.checked) (X:=fun w _=>laidMetH Tryz.prog Rows.idnaIdempotentRow.laid w) (fun _ _ _ hh h=>h.of_heap hh) own started (by kernel_rfl) Tryz.func6
  (ChangeSpec.witness_shaped (enc:=enc) (C:=Tryz.checked) (os:=os) (X:=fun w _=>laidMetH Tryz.prog Rows.idnaIdempotentRow.laid w) false (World.doorLaid Tryz.prog 20 os) #[.slice none 0 0,.slice none 0 0] 8 rfl (World.shaped_of_RefB (by kernel_rfl) (by kernel_rfl)) (by kernel_rfl) (by kernel_rfl) (by kernel_rfl) (door_met os _)) ?_
 intro W base args ds gs before hval0 hW _ hsz0 hL _
 have hsz:(DataW.weightsEach Tryz.prog (Tryz.f6.params.toList++Rows.idnaIdempotentSpec.plain.varTypes Tryz.prog) (ds++gs)).all (·≤reachBytes)=true:=hsz0
 have hval:∀(j:Nat) t v,Tryz.f6.params[j]? = some t→args[j]? = some v→Value.okWide Tryz.prog W .any base t v:=hval0
 have hW':=hW
 obtain⟨p,q,hA0,hV,rfl,_,_⟩:=hW
 have hA:DataW.TrodAll enc Tryz.prog W 0 (fun _=>true) true Tryz.f6.params.toList args.toList ds p:=hA0
 rw[Tryz.params6]at hA hval hsz
 obtain⟨v0,vs0,d0,ds0,p0,q0,hargs,rfl,rfl,h0,r0⟩:=trodAll_cons hA
 obtain⟨v1,vs1,d1,ds1,p1,q1,rfl,rfl,rfl,h1,r1⟩:=trodAll_cons r0
 obtain⟨rfl,rfl,rfl⟩:=trodAll_nil r1
 obtain rfl:args=#[v0,v1]:=by cases args;simp_all
 obtain⟨rfl,rfl⟩:=trodVars_none hV
 obtain⟨a0,len0,cap0,rfl⟩:=okWide_slice Tryz.underlying22 (hval 0 22 v0 rfl rfl)
 have k0:=h0
 have lt0:∀x∈p0,x.block<W.heap.size:=by obtain⟨m,hm⟩:=k0;exact DataW.trod_lt m _ _ _ hm
 obtain⟨z0,w0⟩:∃zs,IsRow .i64 W a0 len0 cap0 zs:=by
  obtain⟨fuel,hf⟩:=h0
  rcases open_ints Tryz.underlying22 Tryz.underlying3 (by kernel_rfl) hf with⟨hcs,_⟩|⟨x,l,c,zs,hcs,_,hl,hm,hz,hx,hcell,hwz⟩
  ·simp[Value.cells]at hcs
   obtain⟨rfl,rfl,rfl⟩:=hcs
   exact⟨[],.inl ⟨rfl,rfl,rfl,rfl⟩⟩
  ·simp[Value.cells]at hcs
   obtain⟨rfl,rfl,rfl⟩:=hcs
   simp only[Prod.mk.injEq]at hx
   have hs:=sized_slice hsz (j:=0) (t:=22) (e:=3) rfl (congrArg some hx.1) Tryz.underlying22
   rw[bytesInt]at hs
   have hz':zs.length=cap0:=by simpa using hz
   simp only[lits,List.length_map,List.length_take,List.length_drop,reachBytes]at hs
   exact⟨zs,.inr ⟨_,rfl,hl,show _*8≤_ by omega,hz',hcell,hwz⟩⟩
 obtain⟨xs0,hlen0,hby0,hin0,_⟩:=w0.inn
 subst hlen0
 obtain⟨a1,len1,cap1,rfl⟩:=okWide_slice Tryz.underlying22 (hval 1 22 v1 rfl rfl)
 have k1:=h1
 have lt1:∀x∈p1,x.block<W.heap.size:=by obtain⟨m,hm⟩:=k1;exact DataW.trod_lt m _ _ _ hm
 obtain⟨z1,w1⟩:∃zs,IsRow .i64 W a1 len1 cap1 zs:=by
  obtain⟨fuel,hf⟩:=h1
  rcases open_ints Tryz.underlying22 Tryz.underlying3 (by kernel_rfl) hf with⟨hcs,_⟩|⟨x,l,c,zs,hcs,_,hl,hm,hz,hx,hcell,hwz⟩
  ·simp[Value.cells]at hcs
   obtain⟨rfl,rfl,rfl⟩:=hcs
   exact⟨[],.inl ⟨rfl,rfl,rfl,rfl⟩⟩
  ·simp[Value.cells]at hcs
   obtain⟨rfl,rfl,rfl⟩:=hcs
   simp only[Prod.mk.injEq]at hx
   have hs:=sized_slice hsz (j:=1) (t:=22) (e:=3) rfl (congrArg some hx.1) Tryz.underlying22
   rw[bytesInt]at hs
   have hz':zs.length=cap1:=by simpa using hz
   simp only[lits,List.length_map,List.length_take,List.length_drop,reachBytes]at hs
   exact⟨zs,.inr ⟨_,rfl,hl,show _*8≤_ by omega,hz',hcell,hwz⟩⟩
 obtain⟨xs1,hlen1,hby1,hin1,_⟩:=w1.inn
 subst hlen1
 clear hA0 hval0
 refine(idnaIdempotent_walk a0 cap0 xs0 a1 cap1 xs1 W hin0 (by simp only[IntKind.bits]at hby0;omega) hin1 (by simp only[IntKind.bits]at hby1;omega) (of_laid hL)).mono fun e W' ⟨he,bel⟩=>?_
 subst he
 exact⟨_,rfl,_,_,_,[],_,[],hW',trodAll_mk1 (shut_bool Tryz.underlying4 _),(trodAll_cons_mk (Below.trod laidOut (by kernel_rfl) (of_decide_eq_true (by kernel_rfl)) k0 bel lt0) (trodAll_cons_mk (Below.trod laidOut (by kernel_rfl) (of_decide_eq_true (by kernel_rfl)) k1 bel lt1) trodAll_mk0)),rfl,bel.frame _,fun h=>by cases h⟩
theorem over:Rows.IdnaIdempotentSaid :=
 OpenClaim.holds_of_wide 6 Tryz.f6 rfl rfl rfl rfl rfl rfl rfl ⟨rfl,rfl,rfl,rfl,rfl⟩ rfl rfl rfl rfl rfl (by kernel_rfl) Tryz.func6 (by kernel_rfl)
  (of_decide_eq_true (by kernel_rfl)) (by unfold Func.isWrapper;first|(rw[if_pos (by decide +kernel)];kernel_rfl)|(rw[if_neg (by decide +kernel)];exact⟨rfl,rfl⟩))
  (fun os started H enc _=>lifted os started H enc)
theorem proved:Rows.IdnaIdempotentCardSaid :=
 Claim7.holds_tied_plain_at .later [] [.data] true (true, "d27e07bb6db37fbd383fddf4ab156c0f6368cdcdfbf3ea36a00f23ac3e7a3454") false
  over (fun _ h=>by cases h) (by kernel_rfl) (fun _ h=>by cases h) idnaIdempotent_row_tie rfl ⟨rfl,rfl⟩ (by kernel_rfl) rfl
  (fun f fn hf hfn=>by
   obtain rfl : f = 6 := Option.some.inj ((show Tryz.prog.funcNamed "namedesk/namedesklaw18.IdnaIdempotent" = some 6 by kernel_rfl).symm.trans hf) |>.symm
   obtain rfl:fn=Tryz.f6:=(Option.some.inj (Tryz.func6.symm.trans hfn)).symm
   exact⟨by kernel_rfl,fun j t ht=>by
    rw[Tryz.params6]at ht
    have hm:t∈[22,22]:=by simpa using Array.mem_of_getElem? ht
    have hall:([22,22].all fun u => !Tryz.prog.wantsStandIn u)=true:=by kernel_rfl
    exact(show Tryz.prog.wantsStandIn t=false by simpa using List.all_eq_true.1 hall t hm)⟩)
  (by kernel_rfl)
#print axioms proved
end Go.Proofs.YtblcoicaeeiojaaGreatDoor.idnaIdempotent
