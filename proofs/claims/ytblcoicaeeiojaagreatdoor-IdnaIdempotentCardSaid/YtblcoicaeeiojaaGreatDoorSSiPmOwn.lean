/- Small words on slices that a call owns. The contract of keep -/
import Derived.Test.YtblcoicaeeiojaaGreatDoorRows
import Derived.WalkKit
import Derived.WalkSpells
import Derived.WalkLawsBesides
import Derived.Lib.Hide
import Derived.Laws.BytesArg
import Derived.Lib.Builder
import Derived.Lib.AppendStr
import Derived.Lib.UnsafeStr
import Derived.Laws.Externs
import Derived.RegionTactic
import Derived.Laws.OwnMore
import Derived.Maps.AppendAt
set_option linter.unusedSimpArgs false
set_option linter.unusedVariables false
namespace Go.Proofs.YtblcoicaeeiojaaGreatDoor
open Go.RowKit
theorem below_grownBy {w w':World} (h:Below w.heap.size w w') (row:Option Nat):w.grownBy w' row :=
 ⟨h.os,h.tape,h.output,h.size,fun k hk _=>h.block k hk⟩
theorem ownsRow_below {w w':World} {B:Nat} {e:TypeId} {z:Nat} {v:Value} {n:Nat} {xs:List Value} (h:w.ownsRow B e z v n xs) (hb:Below w.heap.size w w'):w'.ownsRow B e z v n xs :=
 h.kept (below_grownBy hb none) (by cases v.ownBlock<;>simp)
theorem ownsRow_mono {w:World} {B B':Nat} {e:TypeId} {z:Nat} {v:Value} {n:Nat} {xs:List Value} (h:w.ownsRow B e z v n xs) (hB:B'≤B):w.ownsRow B' e z v n xs:=by
 obtain⟨h1,h2⟩:=h
 refine⟨h1,?_⟩
 rcases h2 with h2|⟨g,cap,cur,a,b,c⟩
 ·exact .inl h2
 ·exact .inr ⟨g,cap,cur,a,by omega,c⟩
theorem Tryz.info3:(Tryz.prog.info? 3).map (fun i=>(i.zero,i.size,i.bytes))=some (some (.int .i64 0),1,8):=by kernel_rfl
def Ints (w:World) (B:Nat) (v:Value) (xs:List Int):Prop:=w.ownsRow B 3 1 v xs.length (xs.map (.int .i64))
theorem Ints.nil (w:World) (B:Nat):Ints w B (.slice none 0 0) []:=World.ownsRow_nil _ _ _ _
theorem Ints.below {w w':World} {B:Nat} {v:Value} {xs:List Int} (h:Ints w B v xs) (hb:Below w.heap.size w w'):Ints w' B v xs:=ownsRow_below h hb
def RowIn (t:IntKind) (w:World) (p:Option Addr) (zs:List Int):Prop :=
 ∀k,k<zs.length→∃b off,p=some ⟨b,off,none⟩∧w.cell? ⟨b,off+k,none⟩=some (.int t (zs.getD k 0))
abbrev IntsIn (w:World) (p:Option Addr) (zs:List Int):Prop:=RowIn .i64 w p zs
theorem RowIn.below {t:IntKind} {w w':World} {p:Option Addr} {zs:List Int} (h:RowIn t w p zs) (hb:Below w.heap.size w w'):RowIn t w' p zs:=by
 intro k hk
 obtain⟨b,off,e,hc⟩:=h k hk
 exact⟨b,off,e,(hb.cell (p:=⟨b,off+k,none⟩) (World.block_lt_of_cell? w _ hc)).trans hc⟩
theorem RowIn.alloc {t:IntKind} {w:World} {p:Option Addr} {zs:List Int} (h:RowIn t w p zs) (o:Obj):RowIn t (w.alloc o) p zs :=
 h.below ((Below.refl _ _).alloc (Nat.le_refl _) o)
def IsRow (k:IntKind) (w:World) (a:Option Addr) (len cap:Nat) (zs:List Int):Prop :=
 (a=none∧len=0∧cap=0∧zs=[])∨
 ∃x,a=some x∧len≤cap∧cap*(k.bits / 8)≤140737488351232∧zs.length=cap∧(∀i,i<zs.length→w.cell? (x.add i)=some (.int k (zs.getD i 0)))∧∀n∈zs,(Lit.int k n).wf=true
theorem IsRow.inn {t : IntKind} {w : World} {a : Option Addr} {len cap : Nat} {zs : List Int} (h : IsRow t w a len cap zs) :
  ∃xs:List Int,len=xs.length∧xs.length*(t.bits / 8)≤140737488351232∧RowIn t w a xs∧∀n∈xs,(Lit.int t n).wf=true:=by
 rcases h with⟨rfl,rfl,rfl,rfl⟩|⟨x,rfl,h1,h2,h3,h4,h5⟩
 ·exact⟨[],rfl,by simp,fun k hk=>by simp at hk,by simp⟩
 ·refine⟨zs.take len,by simp;omega,Nat.le_trans (Nat.mul_le_mul_right _ (by simp;omega)) h2,fun k hk=>?_,fun n hn=>h5 n (List.mem_of_mem_take hn)⟩
  have hk':k<len:=by simp at hk;omega
  have hz:k<zs.length:=by omega
  have h0:=h4 0 (by omega)
  have hs:x.spot=none:=by
   rw[Addr.add_zero']at h0
   unfold World.cell? at h0
   split at h0
   ·split at h0
    ·cases h0
    ·rename_i hh;simpa using hh
   ·cases h0
  obtain⟨b,off,sp⟩:=x
  subst hs
  refine⟨b,off,rfl,?_⟩
  have:=h4 k hz
  rw[Addr.add_lit]at this
  rw[this]
  simp[hk',hz]
theorem Ints.inn {w:World} {B:Nat} {v:Value} {zs:List Int} (h:Ints w B v zs):∃p cap,v = .slice p zs.length cap∧IntsIn w p zs:=by
 obtain⟨h1,h2⟩:=h
 rcases h2 with⟨rfl,h3⟩|⟨g,cap,cur,rfl,hB,hg,hn,hc,hs,ht⟩
 ·have:zs=[]:=List.eq_nil_of_length_eq_zero h3
  subst this
  exact⟨none,0,rfl,fun k hk=>by simp at hk⟩
 ·refine⟨_,cap,rfl,fun k hk=>⟨g,0,rfl,?_⟩⟩
  rw[cell_of_row w g (0+k) cur _ (0,0) hg,Nat.zero_add]
  have e:(cur.toList.take (zs.length*1))[k]? = (zs.map (Value.int .i64))[k]? := by rw[ht]
  rw[List.getElem?_take,if_pos (by omega)]at e
  simpa[List.getD,List.getElem?_eq_getElem hk] using e
theorem take_snoc_int (l:List Int) (k:Nat) (h:k<l.length):l.take (k+1)=l.take k++[l.getD k 0]:=by
 rw[List.take_succ_eq_append_getElem h];simp[h]
def pickS (v n:Int):Int:=(v%18446744073709551616)%n
theorem pickS_bd (v n:Int) (h:1≤n):0≤pickS v n∧pickS v n<n:=by
 unfold pickS;exact⟨Int.emod_nonneg _ (by omega),Int.emod_lt_of_pos _ (by omega)⟩
theorem pick_eq (v n:Int) (h0:1≤n) (h1:n≤1125899906842624):wrap64 ((IntKind.u64.wrap v).tmod n)=pickS v n:=by
 have hb:=pickS_bd v n h0
 have e:(IntKind.u64.wrap v).tmod n=pickS v n:=by
  rw[IntKind.wrap_u64,Int.tmod_eq_emod_of_nonneg (Int.emod_nonneg _ (by omega))]
  rfl
 rw[e]
 exact IntWalk.wrap64_in _ ⟨by omega,by omega⟩
theorem ret_i64 {a b:Int} (h:a=b):Ending.returned (.int .i64 a) = .returned (.int .i64 b):=by rw[h]
set_option maxHeartbeats 400000 in
theorem pickL_any (v n : Int) (w : World) (h0 : 1 ≤ n) (h1 : n ≤ 1125899906842624) :
  Calls Tryz.prog 18 #[.int .i64 v,.int .i64 n] w fun e w'=>e = .returned (.int .i64 (pickS v n))∧w=w':=by
 go_enter Tryz.func18,Tryz.ntmps18
 go_wp2
 go_ret
 exact⟨ret_i64 (pick_eq v n h0 h1),rfl⟩
theorem pick_any (v n : Int) (w : World) (h0 : 1 ≤ n) (h1 : n ≤ 1073741824) :
  Calls Tryz.prog 18 #[.int .i64 v,.int .i64 n] w fun e w'=>e = .returned (.int .i64 (pickS v n))∧w=w':=pickL_any v n w h0 (by omega)
theorem run_append_nil {P : Program} {w : World} (base : Nat) (t ty e : TypeId) (i : TypeInfo) (size : Nat) (ht : P.underlying t = some (.slice e)) (hi : P.info? e = some i)
  (v:Value) (n:Nat) (xs:List Value) (c:Nat) (hown:w.ownsRow base e size v n xs) :
  (Builtin.append_ #[t,t] ty #[v,.slice none 0 c]).run P w = .ok v w:=by
 rcases hown.2 with⟨rfl,rfl⟩|⟨g,cap,cur,rfl,_,_,hnc,_⟩
 ·simp[Builtin.append_,run_underlying ht,sizeOf,typeInfo,hi,Builtin.lenOf,Builtin.firstCells]
 ·simp[Builtin.append_,run_underlying ht,sizeOf,typeInfo,hi,Builtin.lenOf,Builtin.firstCells,hnc,storeCells]
theorem grownBy_refl (w:World) (row:Option Nat):w.grownBy w row:=⟨rfl,rfl,rfl,Nat.le_refl _,fun _ _ _=>rfl⟩
theorem RowIn.grownNone {t:IntKind} {w w':World} {p:Option Addr} {zs:List Int} (h:RowIn t w p zs) (hg:w.grownBy w' none):RowIn t w' p zs:=by
 intro k hk
 obtain⟨b,off,e,hc⟩:=h k hk
 exact⟨b,off,e,hg.cell hc (by simp)⟩
theorem wp_append_ints {w : World} {o : Oper} {a : Act} {K : Act → World → Prop} {Q : Exit → Act → World → Prop} (s x : Operand)
  (ho:o.op = .call { callee := .builtin .append,args:=#[s,x],argTypes:=#[22,22]})
  (base:Nat) (v:Value) (xs:List Int) (hs:a.eval s=v) (hown:Ints w base v xs)
  (p:Option Addr) (m c:Nat) (ys:List Int) (hm:ys.length=m) (hx:a.eval x = .slice p m c) (hin:IntsIn w p ys)
  (hlen:xs.length+ys.length≤17592186043904) (hbase:base≤w.heap.size)
  (h:∀v' w',Ints w' base v' (xs++ys)→w.grownBy w' v.ownBlock→K (a.put o.dst v') w'):o.wp Tryz.prog a w K Q:=by
 subst hm
 obtain⟨i0,hi,hz0,hz1,hz2⟩:=info_parts Tryz.info3
 cases p with
 | none =>
  have hy:ys=[]:=by
   cases ys with
   | nil=>rfl
   | cons y r=>obtain⟨_,_,e,_⟩:=hin 0 (by simp);cases e
  subst hy
  have hr:=run_append_nil (P:=Tryz.prog) base 22 o.type 3 i0 1 Tryz.underlying22 hi v xs.length _ c hown
  unfold Oper.wp execOp
  simp only[ho,resolve,invoke,builtin,Sem.run_bind,Sem.run_pure,Result.andThen_ok,List.map_toArray,List.map_cons,List.map_nil,hs,hx,List.length_nil,hr]
  exact h v w (by simpa using hown) (grownBy_refl _ _)
 | some ad =>
  refine wp_append_own w s x 22 ho base 3 i0 (.int .i64 0) 1 8 Tryz.underlying22 hi hz0 hz1 hz2 rfl (by decide) v xs.length _ hs hown ad ys.length c (ys.map (.int .i64)) hx (by simp) ?_ ?_ (by unfold maxLen;omega) (by omega) hbase ?_
  ·intro j u hu
   rw[List.getElem?_map]at hu
   cases hj:ys[j]? with
   | none=>rw[hj]at hu;cases hu
   | some y =>
    rw[hj]at hu
    simp only[Option.map_some,Option.some.injEq]at hu
    obtain⟨hjl,hje⟩:=List.getElem?_eq_some_iff.1 hj
    obtain⟨b,off,e,hc⟩:=hin j hjl
    simp only[Option.some.injEq]at e
    subst e
    rw[Addr.add_lit,hc,←hu]
    simp[List.getD,hj]
  ·intro u hu
   obtain⟨y,_,rfl⟩:=List.mem_map.1 hu
   rfl
  ·intro v' w' h1 h2 _
   exact h v' w' (by unfold Ints;simpa using h1) h2
theorem wpList_append_ints {w : World} {ops : Array Oper} {rest : List Oper} {o : Oper} {a : Act} {Q : Exit → Act → World → Prop} (s x : Operand)
  (ho:o.op = .call { callee := .builtin .append,args:=#[s,x],argTypes:=#[22,22]})
  (hw:Region.wanted o (yielded ops a.tmps)=true)
  (base:Nat) (v:Value) (xs:List Int) (hs:a.eval s=v) (hown:Ints w base v xs)
  (p:Option Addr) (m c:Nat) (ys:List Int) (hm:ys.length=m) (hx:a.eval x = .slice p m c) (hin:IntsIn w p ys)
  (hlen:xs.length+ys.length≤17592186043904) (hbase:base≤w.heap.size)
  (h:∀v' w',Ints w' base v' (xs++ys)→w.grownBy w' v.ownBlock→wpList Tryz.prog ops Q rest (a.put o.dst v') w'):wpList Tryz.prog ops Q (o::rest) a w:=by
 unfold wpList
 rw[if_pos hw]
 exact .inl (wp_append_ints s x ho base v xs hs hown p m c ys hm hx hin hlen hbase h)
end Go.Proofs.YtblcoicaeeiojaaGreatDoor
namespace Go.Proofs.YtblcoicaeeiojaaGreatDoor
open Go Go.RowKit
theorem Tryz.infoByte:(Tryz.prog.info? 5).map (fun i=>(i.zero,i.size,i.bytes))=some (some (.int .u8 0),1,1):=by kernel_rfl
theorem Tryz.sizeBld:(Tryz.prog.info? 118).map (·.size)=some 2:=by kernel_rfl
theorem Tryz.liesBld:liesAt Tryz.prog Tryz.prog.depth 118 (2 / Tryz.prog.cellsOf 118) 0 118 1=true:=by kernel_rfl
abbrev BldAt (B b:Nat) (p:Value) (bs:List Value) (w:World):Prop:=Lib.BuilderAt 118 5 B b p bs w
abbrev IsBld (B b:Nat) (bs:List Value) (w:World):Prop:=Lib.IsBuilder 118 5 B b bs w
set_option maxHeartbeats 1000000 in
set_option maxRecDepth 100000 in
theorem bcheck_used (b : Nat) (w : World) (h0 : w.cell? ⟨b, 0, none⟩ = some (.pointer (some ⟨b, 0, none⟩))) :
  Calls Tryz.prog 181 #[.pointer (some ⟨b,0,none⟩)] w fun e w'=>e = .returned (.tuple #[])∧w'=w:=by
 obtain⟨j,hj,_⟩:=Option.map_eq_some_iff.1 Tryz.sizeBld
 go_enter Tryz.func181,Tryz.ntmps181
 go_wp2
 rw[Lib.run_neq_ptr_same w _ Tryz.underlying116 hj]
 go_wp2
 go_end0
 exact⟨rfl,rfl⟩
set_option maxHeartbeats 1000000 in
set_option maxRecDepth 100000 in
theorem bcheck_fresh (b : Nat) (w : World) (h0 : w.cell? ⟨b, 0, none⟩ = some (.pointer none)) (hsh : w.shape? b = some (118, 2)) (hfz : w.frozen? ⟨b, 0, none⟩ = false) :
  Calls Tryz.prog 181 #[.pointer (some ⟨b,0,none⟩)] w fun e w'=>e = .returned (.tuple #[])∧w'=w.setCell ⟨b,0,none⟩ (.pointer (some ⟨b,0,none⟩)):=by
 obtain⟨j,hj,hjs⟩:=Option.map_eq_some_iff.1 Tryz.sizeBld
 go_enter Tryz.func181,Tryz.ntmps181
 go_wp2
 rw[Lib.run_to_unsafe w ⟨b,0,none⟩ Tryz.underlying116 Tryz.underlying197 hj (by rw[hjs];decide) hsh (Nat.zero_lt_succ 1)]
 simp only[Result.andThen]
 rw[Oper.upon_value]
 go_wp2
 rw[run_callFunc_extern Tryz.func250 (by kernel_rfl) (by kernel_rfl) (by kernel_rfl) (e:=Extern.AbiNoEscape.same) (by kernel_rfl)]
 rw[Lib.run_noEscape]
 simp only[Result.andThen]
 rw[Oper.upon_value]
 go_wp2
 rw[Lib.run_from_unsafe w ⟨b,0,none⟩ Tryz.underlying197 Tryz.underlying116 hj hsh Tryz.liesBld]
 simp only[Result.andThen]
 rw[Oper.upon_value]
 go_wp2
 go_end0
 exact⟨rfl,rfl⟩
theorem bcheck_any (B b : Nat) (bs : List Value) (w : World) (h : IsBld B b bs w) :
  Calls Tryz.prog 181 #[.pointer (some ⟨b,0,none⟩)] w fun e w'=>e = .returned (.tuple #[])∧BldAt B b (.pointer (some ⟨b,0,none⟩)) bs w'∧Below B w w':=by
 rcases h with h|h
 ·refine(bcheck_fresh b w h.cell0 h.shape h.frozen0).mono ?_
  rintro e w' ⟨rfl,rfl⟩
  exact⟨rfl,h.used _,(Below.refl B w).setCell (p:=⟨b,0,none⟩) h.1 _⟩
 ·refine(bcheck_used b w h.cell0).mono ?_
  rintro e w' ⟨rfl,rfl⟩
  exact⟨rfl,h,Below.refl B _⟩
set_option maxHeartbeats 2000000 in
set_option maxRecDepth 100000 in
theorem bwrite_any (B b : Nat) (bs : List Value) (s : ByteArray) (w : World) (h : IsBld B b bs w) (hlen : bs.length + s.size ≤ 140737488355328) (hBw : B ≤ w.heap.size) :
  Calls Tryz.prog 117 #[.pointer (some ⟨b,0,none⟩),.string s] w fun e w'=>e = .returned (.tuple #[.int .i64 s.size,.nilIface])∧BldAt B b (.pointer (some ⟨b,0,none⟩)) (bs++Lib.strCells s) w'∧Below B w w':=by
 obtain⟨i0,hi,hz0,hz1,hz2⟩:=info_parts Tryz.infoByte
 go_enter Tryz.func117,Tryz.ntmps117
 go_wp2_with fail
 refine(bcheck_any B b bs _ h).mono ?_
 rintro e w1 ⟨rfl,h1,hb1⟩
 obtain⟨hB,v,hbk,hown,hne⟩:=h1
 have c0:w1.cell? ⟨b,0,none⟩=some (.pointer (some ⟨b,0,none⟩)):=by rw[Lib.cell_of_heap hbk];rfl
 have c1:w1.cell? ⟨b,1,none⟩=some v:=by rw[Lib.cell_of_heap hbk];rfl
 go_wp2_with (at_builtin;refine Lib.wpList_append_own_string _ rfl _ _ 47 9 rfl B 5 i0 Tryz.underlying47 Tryz.underlying9 hi hz0 hz1 hz2 _ _ _ rfl hown s rfl ?c3 ?c4 ?c5 ?_)
 case c3=>unfold maxLen;omega
 case c4=>omega
 case c5=>have:=hb1.size;omega
 intro v' w2 hown' hgrow _
 have hlt:b<w1.heap.size:=by
  rcases Nat.lt_or_ge b w1.heap.size with h'|h'
  ·exact h'
  ·simp[Array.getElem?_eq_none h']at hbk
 have hb2:w2.heap[b]? = some (.cells #[.pointer (some ⟨b,0,none⟩),v] 118 (0,0)):=by
  rw[hgrow.block b hlt (fun e=>hne e.symm)]
  exact hbk
 have d0:w2.cell? ⟨b,0,none⟩=some (.pointer (some ⟨b,0,none⟩)):=by rw[Lib.cell_of_heap hb2];rfl
 have d1:w2.cell? ⟨b,1,none⟩=some v:=by rw[Lib.cell_of_heap hb2];rfl
 have f1:w2.frozen? ⟨b,1,none⟩=false:=Lib.frozen_of_heap hb2 1
 obtain⟨ao,n',cap,rfl⟩:∃ao n' cap,v' = .slice ao n' cap:=by
  rcases hown'.2 with⟨hv,_⟩|⟨g,cap,cur,hv,_⟩
  ·exact⟨_,_,_,hv⟩
  ·exact⟨_,_,_,hv⟩
 go_wp2
 go_ret2
 refine⟨rfl,?_,?_⟩
 ·exact Lib.BuilderAt.put (T:=118) (e:=5) hB hb2 (bs':=bs++Lib.strCells s) (by simpa[Lib.strCells_length] using hown') (by decide)
 ·exact(hb1.grown hgrow (by have:=hb1.size;omega) (fun k hk=>(hown.lt k hk).1)).setCell (p:=⟨b,1,none⟩) hB _
set_option maxHeartbeats 1000000 in
set_option maxRecDepth 100000 in
theorem bstring_any (B b : Nat) (l : List UInt8) (w : World) (h : IsBld B b (Lib.byteCells l) w) (h0 : l ≠ []) :
  Calls Tryz.prog 118 #[.pointer (some ⟨b,0,none⟩)] w fun e w'=>e = .returned (.string ⟨l.toArray⟩)∧Below B w w':=by
 obtain⟨p,hB,v,hbk,hown,hne⟩:∃p,BldAt B b p (Lib.byteCells l) w:=by
  rcases h with h|h
  ·exact⟨_,h⟩
  ·exact⟨_,h⟩
 have hl0:l.length≠0:=by simpa using h0
 rw[Lib.byteCells_length]at hown
 obtain⟨g,cap,cur,rfl,hbg,hg,hnc,hcm,hcs,htake⟩:∃g cap cur,v = .slice (some ⟨g,0,none⟩) l.length cap∧B≤g∧w.heap[g]? = some (.cells cur 5 (0,0))∧l.length≤cap∧cap≤maxLen∧cur.size=cap*1∧cur.toList.take (l.length*1)=Lib.byteCells l:=by
  rcases hown.2 with⟨_,hz⟩|⟨g,cap,cur,hv,r⟩
  ·exact absurd hz hl0
  ·exact⟨g,cap,cur,hv,r⟩
 have c1:w.drew.cell? ⟨b,1,none⟩=some (.slice (some ⟨g,0,none⟩) l.length cap):=by
  have:w.drew.heap[b]? = some (.cells #[p,.slice (some ⟨g,0,none⟩) l.length cap] 118 (0,0)):=hbk
  rw[Lib.cell_of_heap this];rfl
 have hSD:(Builtin.unsafeSliceData_ #[47] 160 #[.slice (some ⟨g,0,none⟩) l.length cap]).run Tryz.prog w.drew = .ok (.pointer (some ⟨g,0,none⟩)) w.drew :=
  Lib.run_unsafeSliceData_row _ _ _ _ _ _ (by omega)
 have hUS:(Builtin.unsafeString_ #[160,3] 9 #[.pointer (some ⟨g,0,none⟩),.int .i64 l.length]).run Tryz.prog w.drew = .ok (.string ⟨l.toArray⟩) (w.drew.freeze ⟨g,0,none⟩ l.length):=by
  refine Lib.run_unsafeString_row w.drew 160 3 9 5 Tryz.underlying160 (by kernel_rfl) g cur.size (by have hg':w.drew.heap[g]? = some (.cells cur 5 (0,0)):=hg;simp[World.shape?,hg']) l h0 (by omega) (by unfold maxLen at hcm;omega) ?_
  intro j x hx
  have:=hown.cells (g:=g) rfl j (.int .u8 x.toNat) (by simp[Lib.byteCells,hx])
  exact this
 go_enter Tryz.func118,Tryz.ntmps118
 go_wp2
 go_region
 all_goals (go_wp2;go_ret;exact⟨rfl,Lib.below_freeze (Below.drew (Below.refl B w)) (p:=⟨g,0,none⟩) hbg _⟩)
end Go.Proofs.YtblcoicaeeiojaaGreatDoor
namespace Go.Proofs.YtblcoicaeeiojaaGreatDoor
open Go.RowKit
def LsIn (w:World) (p:Option Addr) (L:List (List Int)):Prop :=
 ∀k,k<L.length→∃b off q c,p=some ⟨b,off,none⟩∧w.cell? ⟨b,off+k,none⟩=some (.slice q (L.getD k []).length c)∧(L.getD k []).length≤c∧IntsIn w q (L.getD k [])
theorem LsIn.below {w w':World} {p:Option Addr} {L:List (List Int)} (h:LsIn w p L) (hb:Below w.heap.size w w'):LsIn w' p L:=by
 intro k hk
 obtain⟨b,off,q,c,e,hc,hl,hi⟩:=h k hk
 exact⟨b,off,q,c,e,(hb.cell (p:=⟨b,off+k,none⟩) (World.block_lt_of_cell? w _ hc)).trans hc,hl,hi.below hb⟩
theorem LsIn.nil (w:World) (p:Option Addr):LsIn w p []:=fun k hk=>by simp at hk
def StrIn (w:World) (p:Option Addr) (L:List ByteArray):Prop :=
 ∀k,k<L.length→∃b off,p=some ⟨b,off,none⟩∧w.cell? ⟨b,off+k,none⟩=some (.string (L.getD k ByteArray.empty))
theorem StrIn.below {w w':World} {p:Option Addr} {L:List ByteArray} (h:StrIn w p L) (hb:Below w.heap.size w w'):StrIn w' p L:=by
 intro k hk
 obtain⟨b,off,e,hc⟩:=h k hk
 exact⟨b,off,e,(hb.cell (p:=⟨b,off+k,none⟩) (World.block_lt_of_cell? w _ hc)).trans hc⟩
theorem StrIn.nil (w:World) (p:Option Addr):StrIn w p []:=fun k hk=>by simp at hk
theorem Tryz.info9:(Tryz.prog.info? 9).map (fun i=>(i.zero,i.size,i.bytes))=some (some (.string ByteArray.empty),1,16):=by kernel_rfl
def Strs (w:World) (B:Nat) (v:Value) (L:List ByteArray):Prop:=w.ownsRow B 9 1 v L.length (L.map Value.string)
theorem Strs.nil (w:World) (B:Nat):Strs w B (.slice none 0 0) []:=World.ownsRow_nil _ _ _ _
theorem Strs.below {w w':World} {B:Nat} {v:Value} {L:List ByteArray} (h:Strs w B v L) (hb:Below w.heap.size w w'):Strs w' B v L:=ownsRow_below h hb
theorem Strs.inn {w:World} {B:Nat} {v:Value} {L:List ByteArray} (h:Strs w B v L):∃p cap,v = .slice p L.length cap∧StrIn w p L∧L.length≤cap:=by
 obtain⟨h1,h2⟩:=h
 rcases h2 with⟨rfl,h3⟩|⟨g,cap,cur,rfl,hB,hg,hn,hc,hs,ht⟩
 ·have:L=[]:=List.eq_nil_of_length_eq_zero h3
  subst this
  exact⟨none,0,rfl,fun k hk=>by simp at hk,Nat.le_refl _⟩
 ·refine⟨_,cap,rfl,fun k hk=>⟨g,0,rfl,?_⟩,hn⟩
  rw[cell_of_row w g (0+k) cur _ (0,0) hg,Nat.zero_add]
  have e:(cur.toList.take (L.length*1))[k]? = (L.map Value.string)[k]? := by rw[ht]
  rw[List.getElem?_take,if_pos (by omega)]at e
  simpa[List.getD,List.getElem?_eq_getElem hk] using e
theorem ints_capL {w:World} {B:Nat} {v:Value} {zs:List Int} (h:Ints w B v zs):∃p cap,v = .slice p zs.length cap∧IntsIn w p zs∧zs.length≤cap:=by
 obtain⟨h1,h2⟩:=h
 rcases h2 with⟨rfl,h3⟩|⟨g,cap,cur,rfl,hB,hg,hn,hc,hs,ht⟩
 ·have:zs=[]:=List.eq_nil_of_length_eq_zero h3
  subst this
  exact⟨none,0,rfl,fun k hk=>by simp at hk,Nat.le_refl _⟩
 ·obtain⟨p,c,e,hi⟩:=Ints.inn (w:=w) (B:=B) (zs:=zs) ⟨h1,.inr ⟨g,cap,cur,rfl,hB,hg,hn,hc,hs,ht⟩⟩
  injection e with e1 e2 e3
  subst e1;subst e3
  exact⟨_,cap,rfl,hi,hn⟩
theorem Tryz.info22:(Tryz.prog.info? 22).map (fun i=>(i.zero,i.size,i.bytes))=some (some (.slice none 0 0),1,24):=by kernel_rfl
def Lab (w:World) (B:Nat) (v:Value) (x:List Int):Prop :=
 ∃q c,v = .slice q x.length c∧x.length≤c∧IntsIn w q x∧(q=none∨∃b off,q=some ⟨b,off,none⟩∧B≤b∧b<w.heap.size∧∀i,i<x.length→w.frozen? ⟨b,off+i,none⟩=false)
def labBlk (v:Value):Option Nat:=match v with | .slice (some a) _ _=>some a.block|_=>none
theorem Lab.nil (w:World) (B:Nat):Lab w B (.slice none 0 0) []:=⟨none,0,rfl,Nat.le_refl _,fun k hk=>by simp at hk,.inl rfl⟩
theorem Lab.kept {w w':World} {B:Nat} {v:Value} {x:List Int} {row:Option Nat} (h:Lab w B v x) (hg:w.grownBy w' row) (hne:∀b,labBlk v=some b→row≠some b):Lab w' B v x:=by
 obtain⟨q,c,rfl,hl,hi,ho⟩:=h
 refine⟨q,c,rfl,hl,fun k hk=>?_,?_⟩
 ·obtain⟨b,off,e,hc⟩:=hi k hk
  exact⟨b,off,e,hg.cell hc (fun e2=>hne b (by rw[e];rfl) e2.symm)⟩
 ·rcases ho with ho|⟨b,off,e,h1,h2,h3⟩
  ·exact .inl ho
  ·refine .inr ⟨b,off,e,h1,Nat.lt_of_lt_of_le h2 hg.size,fun i hix=>?_⟩
   exact(World.frozen?_of_block (hg.block b h2 (fun e2=>hne b (by rw[e];rfl) e2.symm))).trans (h3 i hix)
theorem Lab.mono {w:World} {B B':Nat} {v:Value} {x:List Int} (h:Lab w B v x) (hB:B'≤B):Lab w B' v x:=by
 obtain⟨q,c,e,hl,hi,ho⟩:=h
 refine⟨q,c,e,hl,hi,?_⟩
 rcases ho with ho|⟨b,off,e,h1,h2,h3⟩
 ·exact .inl ho
 ·exact .inr ⟨b,off,e,Nat.le_trans hB h1,h2,h3⟩
theorem Lab.lt {w:World} {B:Nat} {v:Value} {x:List Int} (h:Lab w B v x) {b:Nat} (hb:labBlk v=some b):B≤b∧b<w.heap.size:=by
 obtain⟨q,c,rfl,h1,h2,h3⟩:=h
 rcases h3 with rfl|⟨b',off,rfl,h4,h5,_⟩
 ·cases hb
 ·cases hb;exact⟨h4,h5⟩
theorem Lab.ofInts {w:World} {B:Nat} {v:Value} {x:List Int} (h:Ints w B v x):Lab w B v x∧labBlk v=v.ownBlock:=by
 have h0:=h
 obtain⟨h1,h2⟩:=h
 rcases h2 with⟨rfl,h3⟩|⟨g,cap,cur,rfl,hB,hg,hn,hc,hs,ht⟩
 ·have:x=[]:=List.eq_nil_of_length_eq_zero h3
  subst this
  exact⟨Lab.nil w B,rfl⟩
 ·have hlt:=World.ownsRow.lt h0 g rfl
  refine⟨⟨some ⟨g,0,none⟩,cap,rfl,hn,?_,.inr ⟨g,0,rfl,hB,hlt.2,fun i hix=>?_⟩⟩,rfl⟩
  ·obtain⟨p,c,e,hi⟩:=h0.inn
   injection e with e1 e2 e3
   subst e1
   exact hi
  ·rw[Nat.zero_add]
   exact World.ownsRow.frozenAt h0 i
structure Labs (w:World) (B:Nat) (u:Value) (L:List (List Int)) (Vs:List Value):Prop where
 own:w.ownsRow B 22 1 u L.length Vs
 len:Vs.length=L.length
 lab:∀k,k<L.length→Lab w B (Vs.getD k (.slice none 0 0)) (L.getD k [])
 off:∀k b,k<L.length→labBlk (Vs.getD k (.slice none 0 0))=some b→u.ownBlock≠some b
structure LsNew (w:World) (B g cap:Nat) (L:List (List Int)):Prop where
 hd:∀k,k<L.length→∃v,w.cell? ⟨g,k,none⟩=some v∧Lab w B v (L.getD k [])∧labBlk v≠some g
 soft:∀k,k<L.length→w.frozen? ⟨g,k,none⟩=false
 lo:B≤g
 hi:g<w.heap.size
 room:L.length≤cap
 most:cap≤maxLen
theorem LsNew.below {w w':World} {B g cap:Nat} {L:List (List Int)} (h:LsNew w B g cap L) (hb:Below w.heap.size w w'):LsNew w' B g cap L where
 hd:=fun k hk=>by
  obtain⟨v,h1,h2,h3⟩:=h.hd k hk
  exact⟨v,(hb.cell (p:=⟨g,k,none⟩) h.hi).trans h1,h2.kept (below_grownBy hb none) (fun b _ e=>by cases e),h3⟩
 soft:=fun k hk=>(World.frozen?_of_block (hb.block g h.hi)).trans (h.soft k hk)
 lo:=h.lo
 hi:=Nat.lt_of_lt_of_le h.hi hb.size
 room:=h.room
 most:=h.most
theorem LsNew.inn {w:World} {B g cap:Nat} {L:List (List Int)} (h:LsNew w B g cap L):LsIn w (some ⟨g,0,none⟩) L:=by
 intro k hk
 obtain⟨v,h1,⟨q,c,rfl,h2,h3,_⟩,_⟩:=h.hd k hk
 exact⟨g,0,q,c,rfl,by rw[Nat.zero_add];exact h1,h2,h3⟩
theorem LsNew.mono {w:World} {B B' g cap:Nat} {L:List (List Int)} (h:LsNew w B g cap L) (hB:B'≤B):LsNew w B' g cap L where
 hd:=fun k hk=>by
  obtain⟨v,h1,h2,h3⟩:=h.hd k hk
  exact⟨v,h1,h2.mono hB,h3⟩
 soft:=h.soft
 lo:=Nat.le_trans hB h.lo
 hi:=h.hi
 room:=h.room
 most:=h.most
theorem Labs.new {w:World} {B:Nat} {u:Value} {L:List (List Int)} {Vs:List Value} (h:Labs w B u L Vs) (hne:L≠[]):∃g cap,u = .slice (some ⟨g,0,none⟩) L.length cap∧LsNew w B g cap L:=by
 have h0:=h.own
 obtain⟨h1,h2⟩:=h.own
 have hlen:0<L.length:=List.length_pos_iff.2 hne
 rcases h2 with⟨rfl,h3⟩|⟨g,cap,cur,rfl,hB,hg,hn,hc,hs,ht⟩
 ·omega
 ·have hlt:=World.ownsRow.lt h0 g rfl
  refine⟨g,cap,rfl,⟨fun k hk=>?_,fun k _=>World.ownsRow.frozenAt h0 k,hB,hlt.2,hn,hc⟩⟩
  have hc1:=World.ownsRow.cellAt h0 k (by omega)
  have hk2:k<Vs.length:=by rw[h.len];exact hk
  refine⟨Vs.getD k (.slice none 0 0),?_,h.lab k hk,fun e=>h.off k g hk e rfl⟩
  rw[hc1]
  simp[List.getD,hk2]
end Go.Proofs.YtblcoicaeeiojaaGreatDoor
