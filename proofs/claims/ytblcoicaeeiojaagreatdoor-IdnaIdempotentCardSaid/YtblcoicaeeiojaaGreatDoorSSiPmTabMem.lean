/- Slices of spans in memory. ranges: isValid. Slices of spans: -/
import Derived.Test.YtblcoicaeeiojaaGreatDoorSSiPmOwn
import Derived.Test.YtblcoicaeeiojaaGreatDoorSSiPmSplSpec
import Derived.Deep.QuietTactic
import Derived.BigQuiet
import Derived.Deep.DeepCutAuto
import Derived.Maps.AppendAt
import Derived.Deep.RegionHeld3
import Derived.Deep.AppendLies
import Derived.OwnWalk
import Derived.WalkSpells
import Derived.Test.YtblcoicaeeiojaaGreatDoorSSiPmOrdSpec
import Derived.Laws.Rows
set_option linter.unusedSimpArgs false
set_option linter.unusedVariables false
namespace Go.Proofs.YtblcoicaeeiojaaGreatDoor
open Go.RowKit
theorem Tryz.infoSpan:(Tryz.prog.info? 66).map (fun i=>(i.zero,i.size,i.bytes))=some (some (.agg #[.int .i64 0,.int .i64 0,.int .i64 0]),3,24):=by kernel_rfl
abbrev sp0:Sp:=(0,0,0)
abbrev spV (s:Sp):Value := .agg #[.int .i64 s.1,.int .i64 s.2.1,.int .i64 s.2.2]
def cellsS:List Sp→List Value
 | []=>[]
 | s::r => .int .i64 s.1 :: .int .i64 s.2.1 :: .int .i64 s.2.2::cellsS r
theorem cellsS_length (l:List Sp):(cellsS l).length=l.length*3:=by
 induction l with
 | nil=>rfl
 | cons s r ih=>simp only[cellsS,List.length_cons,ih];omega
theorem cellsS_append (a b:List Sp):cellsS (a++b)=cellsS a++cellsS b:=by
 induction a with
 | nil=>rfl
 | cons s r ih=>simp[cellsS,ih]
theorem cellsS_at (l : List Sp) (k : Nat) (h : k < l.length) :
  (cellsS l)[k*3]? = some (.int .i64 (l.getD k sp0).1)∧(cellsS l)[k*3+1]? = some (.int .i64 (l.getD k sp0).2.1)∧(cellsS l)[k*3+2]? = some (.int .i64 (l.getD k sp0).2.2):=by
 induction l generalizing k with
 | nil=>simp at h
 | cons s r ih =>
  cases k with
  | zero=>simp[cellsS]
  | succ k =>
   have:=ih k (by simpa using h)
   rw[show (k+1)*3=k*3+1+1+1 by omega]
   simpa[cellsS] using this
def SpIn (w:World) (p:Option Addr) (l:List Sp):Prop :=
 ∀k,k<l.length→∃b off,p=some ⟨b,off,none⟩∧w.cell? ⟨b,off+k*3,none⟩=some (.int .i64 (l.getD k sp0).1)∧w.cell? ⟨b,off+k*3+1,none⟩=some (.int .i64 (l.getD k sp0).2.1)∧
  w.cell? ⟨b,off+k*3+2,none⟩=some (.int .i64 (l.getD k sp0).2.2)
theorem SpIn.below {w w':World} {p:Option Addr} {l:List Sp} (h:SpIn w p l) (hb:Below w.heap.size w w'):SpIn w' p l:=by
 intro k hk
 obtain⟨b,off,e,h1,h2,h3⟩:=h k hk
 have hlt:=World.block_lt_of_cell? w _ h1
 exact⟨b,off,e,(hb.cell (p:=⟨b,off+k*3,none⟩) hlt).trans h1,(hb.cell (p:=⟨b,off+k*3+1,none⟩) hlt).trans h2,(hb.cell (p:=⟨b,off+k*3+2,none⟩) hlt).trans h3⟩
theorem SpIn.alloc {w:World} {p:Option Addr} {l:List Sp} (h:SpIn w p l) (o:Obj):SpIn (w.alloc o) p l :=
 h.below ((Below.refl _ _).alloc (Nat.le_refl _) o)
def Spans (w:World) (B:Nat) (v:Value) (l:List Sp):Prop:=w.ownsRow B 66 3 v l.length (cellsS l)
theorem Spans.nil (w:World) (B:Nat):Spans w B (.slice none 0 0) []:=World.ownsRow_nil _ _ _ _
theorem Spans.below {w w':World} {B:Nat} {v:Value} {l:List Sp} (h:Spans w B v l) (hb:Below w.heap.size w w'):Spans w' B v l:=ownsRow_below h hb
theorem Spans.mono {w:World} {B B':Nat} {v:Value} {l:List Sp} (h:Spans w B v l) (hB:B'≤B):Spans w B' v l:=ownsRow_mono h hB
theorem Spans.inn {w:World} {B:Nat} {v:Value} {l:List Sp} (h:Spans w B v l):∃p cap,v = .slice p l.length cap∧SpIn w p l:=by
 obtain⟨h1,h2⟩:=h
 rcases h2 with⟨rfl,h3⟩|⟨g,cap,cur,rfl,hB,hg,hn,hc,hs,ht⟩
 ·have:l=[]:=List.eq_nil_of_length_eq_zero h3
  subst this
  exact⟨none,0,rfl,fun k hk=>by simp at hk⟩
 ·refine⟨_,cap,rfl,fun k hk=>⟨g,0,rfl,?_⟩⟩
  have key:∀j v,j<l.length*3→(cellsS l)[j]? = some v→w.cell? ⟨g,j,none⟩=some v:=by
   intro j v hj hv
   rw[cell_of_row w g j cur _ (0,0) hg]
   rw[←ht,List.getElem?_take,if_pos hj]at hv
   simpa using hv
  obtain⟨c1,c2,c3⟩:=cellsS_at l k hk
  refine⟨?_,?_,?_⟩
  ·rw[Nat.zero_add];exact key _ _ (by omega) c1
  ·rw[Nat.zero_add];exact key _ _ (by omega) c2
  ·rw[Nat.zero_add];exact key _ _ (by omega) c3
theorem take_snoc_sp (l:List Sp) (k:Nat) (h:k<l.length):l.take (k+1)=l.take k++[l.getD k sp0]:=by
 rw[List.take_succ_eq_append_getElem h];simp[h]
theorem drop_cons_sp (l:List Sp) (k:Nat) (h:k<l.length):l.drop k=l.getD k sp0::l.drop (k+1):=by
 rw[List.drop_eq_getElem_cons h];simp[h]
theorem getD_mem (l:List Sp) (k:Nat) (h:k<l.length):l.getD k sp0∈l:=by
 simp[h]
theorem asc_snoc_iff (lo:Int) (a:List Sp) (s:Sp):ascB lo (a++[s])=true↔ascB lo a=true∧ends lo a≤s.1∧s.1≤s.2.1∧s.2.1≤1114111:=by
 rw[asc_append,asc_cons];simp[ascB]
theorem asc_prefix {lo:Int} {l:List Sp} (k:Nat) (h:ascB lo (l.take k)=false):ascB lo l=false:=by
 cases hb:ascB lo l with
 | false=>rfl
 | true =>
  rw[←List.take_append_drop k l,asc_append]at hb
  rw[hb.1]at h;cases h
def validS (l:List Sp):Bool:=decide (l.length≤256)&&ascB 0 l
theorem asc_getD {l:List Sp} (h:ascB 0 l=true) (k:Nat) (hk:k<l.length):0≤(l.getD k sp0).1∧(l.getD k sp0).1≤(l.getD k sp0).2.1∧(l.getD k sp0).2.1≤1114111:=by
 have:=asc_mem h (getD_mem l k hk)
 omega
set_option maxHeartbeats 1000000 in
theorem isValid_any (p : Option Addr) (n c : Nat) (l : List Sp) (w : World) (hl : l.length = n) (hn : n ≤ maxLen) (hin : SpIn w p l) :
  Calls Tryz.prog 252 #[.slice p n c] w fun e w'=>e = .returned (.bool (validS l))∧Below w.heap.size w w':=by
 unfold maxLen at hn
 have HI:=Lib.hid hin
 have HL:=Lib.hid hl
 clear hin hl
 by_cases hbig:256<n
 ·have HV:Hid (validS l=false):=by unfold Hid validS;rw[HL.out,decide_eq_false (by omega)];rfl
  go_enter Tryz.func252,Tryz.ntmps252
  go_wp2
  go_ret
  rw[HV.out]
  exact⟨rfl,Below.refl _ _⟩
 ·go_enter Tryz.func252,Tryz.ntmps252
  go_wp2
  go_loopw [3,11] (fun v i wr=>∃k:Nat,k≤n∧i = .int .i64 k∧(∃e:Int,0≤e∧e≤1114112∧v = .int .i64 e∧Hid (ends 0 (l.take k)=e))∧Hid (ascB 0 (l.take k)=true)∧Below w.heap.size w wr) (fun _ i _=>n-(intOf i).toNat)
  case atStart=>exact⟨0,Nat.zero_le _,rfl,⟨0,by omega,by omega,rfl,rfl⟩,rfl,Below.refl _ _⟩
  case round =>
   obtain⟨k,hk,rfl,⟨e,he0,he1,rfl,hee⟩,ha,hbel⟩:=hrel
   by_cases hlt:k<n
   ·have hkl:k<l.length:=by rw[HL.out];exact hlt
    obtain⟨b,off,rfl,hc1,hc2,hc3⟩:=(HI.out.below hbel) k hkl
    have HB:=Lib.hid hbel
    obtain⟨⟨f,t,v⟩,hs⟩:∃s,l.getD k sp0=s:=⟨_,rfl⟩
    rw[hs]at hc1 hc2 hc3
    have HS:=Lib.hid hs
    clear hs hbel
    by_cases hok:e≤f∧f≤t∧t≤1114111
    ·obtain⟨ho1,ho2,ho3⟩:=hok
     have HA:Hid (ascB 0 (l.take (k+1))=true):=by
      unfold Hid;rw[take_snoc_sp l k hkl,asc_snoc_iff,HS.out,hee.out];exact⟨ha.out,ho1,ho2,ho3⟩
     have HE:Hid (ends 0 (l.take (k+1))=t+1):=by
      unfold Hid;rw[take_snoc_sp l k hkl,ends_append,HS.out];rfl
     go_wp2
     go_roundw
     case rel=>exact⟨k+1,by omega,by go_num,⟨t+1,by omega,by omega,rfl,HE⟩,HA,HB.out.alloc HB.out.size _⟩
     case measure=>simp[intOf];omega
    ·have HN:=Lib.hid hok
     have HV:Hid (validS l=false):=by
      unfold Hid validS
      rw[asc_prefix (k+1),Bool.and_false]
      rw[←Bool.not_eq_true,take_snoc_sp l k hkl,asc_snoc_iff,HS.out,hee.out]
      exact fun h=>HN.out h.2
     clear hok
     go_wp2
     all_goals first
      | (exfalso;have:=HN.out;omega)
      | (go_ret;rw[HV.out];exact⟨rfl,HB.out.alloc HB.out.size _⟩)
   ·obtain rfl:k=n:=by omega
    have HV:Hid (validS l=true):=by
     unfold Hid validS
     have:=ha.out
     rw[List.take_of_length_le (Nat.le_of_eq HL.out)]at this
     rw[this,HL.out,decide_eq_true (by omega)];rfl
    have HB:=Lib.hid hbel
    clear hbel
    go_wp2
    go_ret
    rw[HV.out]
    exact⟨rfl,HB.out⟩
theorem run_make_rowN {P : Program} (t e : TypeId) (i : TypeInfo) (z : Value) (ht : P.underlying t = some (.slice e)) (hi : P.info? e = some i) (hz : i.zero = some z)
  (kl kc:IntKind) (n c:Nat) (hnc:n≤c) (hbytes:i.bytes*c≤281474976710656) (h63:c≤9223372036854775807) (w:World) :
  (Instr.makeSlice t (.int kl (n:Int)) (.int kc (c:Int))).run P w = .ok (.slice (some ⟨w.heap.size,0,none⟩) n c) (w.alloc (.cells (madeCells z.cells (c*i.size)) e)):=by
 have hb:(i.bytes:Int)*(c:Int)≤281474976710656:=by
  have h:((i.bytes*c:Nat):Int)≤281474976710656:=by omega
  rwa[Int.natCast_mul]at h
 have hr:=run_make (P:=P) w t e i z ht hi hz kl kc n c (by omega) (by omega) hb (by omega)
 simp only[Int.toNat_natCast]at hr
 exact hr
def madeSp (c:Nat):Obj := .cells (madeCells (Value.cells (.agg #[.int .i64 0,.int .i64 0,.int .i64 0])) (c*3)) 66
theorem Spans.made (w:World) (B c:Nat) (hB:B≤w.heap.size) (hc:c≤4194304):Spans (w.alloc (madeSp c)) B (.slice (some ⟨w.heap.size,0,none⟩) 0 c) []:=by
 unfold Spans madeSp
 exact World.ownsRow_made w _ c hB (by unfold maxLen;omega) (size_madeCells _ _)
theorem cells_one (l:List Sp):∀u∈cellsS l,u.oneCell'=true:=by
 induction l with
 | nil=>intro u hu;cases hu
 | cons s r ih =>
  intro u hu
  simp only[cellsS,List.mem_cons]at hu
  rcases hu with rfl|rfl|rfl|hu
  ·rfl
  ·rfl
  ·rfl
  ·exact ih u hu
theorem sp_grownBy_refl (w:World) (row:Option Nat):w.grownBy w row:=⟨rfl,rfl,rfl,Nat.le_refl _,fun _ _ _=>rfl⟩
theorem run_append_nil_sp {P : Program} {w : World} (base : Nat) (t ty e : TypeId) (i : TypeInfo) (size : Nat) (ht : P.underlying t = some (.slice e)) (hi : P.info? e = some i)
  (v:Value) (n:Nat) (xs:List Value) (c:Nat) (hown:w.ownsRow base e size v n xs) :
  (Builtin.append_ #[t,t] ty #[v,.slice none 0 c]).run P w = .ok v w:=by
 rcases hown.2 with⟨rfl,rfl⟩|⟨g,cap,cur,rfl,_,_,hnc,_⟩
 ·simp[Builtin.append_,run_underlying ht,sizeOf,typeInfo,hi,Builtin.lenOf,Builtin.firstCells]
 ·simp[Builtin.append_,run_underlying ht,sizeOf,typeInfo,hi,Builtin.lenOf,Builtin.firstCells,hnc,storeCells]
theorem SpIn.cells {w:World} {ad:Addr} {l:List Sp} (h:SpIn w (some ad) l):∀j u,(cellsS l)[j]? = some u→w.cell? (ad.add j)=some u:=by
 intro j u hu
 have hj:j<l.length*3:=by
  have:=(List.getElem?_eq_some_iff.1 hu).1
  rwa[cellsS_length]at this
 have hk:j / 3<l.length:=by omega
 obtain⟨b,off,e,h1,h2,h3⟩:=h (j / 3) hk
 obtain⟨c1,c2,c3⟩:=cellsS_at l (j / 3) hk
 simp only[Option.some.injEq]at e
 subst e
 rw[Addr.add_lit]
 have hm:j%3=0∨j%3=1∨j%3=2:=by omega
 rcases hm with hm|hm|hm
 ·have e:j / 3*3=j:=by omega
  rw[e]at h1 c1
  rw[h1,←hu,c1]
 ·have e:j / 3*3+1=j:=by omega
  rw[Nat.add_assoc,e]at h2;rw[e]at c2
  rw[h2,←hu,c2]
 ·have e:j / 3*3+2=j:=by omega
  rw[Nat.add_assoc,e]at h3;rw[e]at c3
  rw[h3,←hu,c3]
theorem wp_append_spans {w : World} {o : Oper} {a : Act} {K : Act → World → Prop} {Q : Exit → Act → World → Prop} (s x : Operand)
  (ho:o.op = .call { callee := .builtin .append,args:=#[s,x],argTypes:=#[23,23]})
  (base:Nat) (v:Value) (xs:List Sp) (hs:a.eval s=v) (hown:Spans w base v xs)
  (p:Option Addr) (m c:Nat) (ys:List Sp) (hm:ys.length=m) (hx:a.eval x = .slice p m c) (hin:SpIn w p ys)
  (hlen:xs.length+ys.length≤1099511627776) (hbase:base≤w.heap.size)
  (h:∀v' w',Spans w' base v' (xs++ys)→w.grownBy w' v.ownBlock→K (a.put o.dst v') w'):o.wp Tryz.prog a w K Q:=by
 subst hm
 obtain⟨i0,hi,hz0,hz1,hz2⟩:=info_parts Tryz.infoSpan
 cases p with
 | none =>
  have hy:ys=[]:=by
   cases ys with
   | nil=>rfl
   | cons y r=>obtain⟨_,_,e,_⟩:=hin 0 (by simp);cases e
  subst hy
  have hr:=run_append_nil_sp (P:=Tryz.prog) base 23 o.type 66 i0 3 Tryz.underlying23 hi v xs.length _ c hown
  unfold Oper.wp execOp
  simp only[ho,resolve,invoke,builtin,Sem.run_bind,Sem.run_pure,Result.andThen_ok,List.map_toArray,List.map_cons,List.map_nil,hs,hx,List.length_nil,hr]
  exact h v w (by simpa using hown) (sp_grownBy_refl _ _)
 | some ad =>
  refine wp_append_own w s x 23 ho base 66 i0 _ 3 24 Tryz.underlying23 hi hz0 hz1 hz2 rfl (by decide) v xs.length _ hs hown ad ys.length c (cellsS ys) hx (cellsS_length _) hin.cells (cells_one ys) (by unfold maxLen;omega) (by omega) hbase ?_
  intro v' w' h1 h2 _
  exact h v' w' (by unfold Spans;rw[List.length_append,cellsS_append];exact h1) h2
theorem one_new (w:World) (f t v:Int) (ty:TypeId):SpIn (w.alloc (.cells #[.int .i64 f,.int .i64 t,.int .i64 v] ty)) (some ⟨w.heap.size,0,none⟩) [(f,t,v)]:=by
 intro k hk
 obtain rfl:k=0:=by simp at hk;omega
 refine⟨_,_,rfl,?_,?_,?_⟩<;>simp[World.cell?_alloc_new]
theorem cellsS_set (i:List Sp) (p:Sp) (t:Int):(cellsS (i++[p])).set (i.length*3+1) (.int .i64 t)=cellsS (i++[(p.1,t,p.2.2)]):=by
 rw[cellsS_append,cellsS_append,List.set_append_right _ _ (by rw[cellsS_length];omega)]
 congr 1
 rw[cellsS_length,show i.length*3+1-i.length*3=1 by omega]
 rfl
theorem Spans.setTo {w : World} {B : Nat} {i : List Sp} {p : Sp} {g n cap : Nat} (h : Spans w B (.slice (some ⟨g, 0, none⟩) n cap) (i ++ [p])) (hn : n = i.length + 1) (t : Int) :
  Spans (w.setCell ⟨g,i.length*3+1,none⟩ (.int .i64 t)) B (.slice (some ⟨g,0,none⟩) n cap) (i++[(p.1,t,p.2.2)]):=by
 subst hn
 unfold Spans at h ⊢
 rw[←cellsS_set]
 simp only[List.length_append,List.length_cons,List.length_nil]at h ⊢
 exact(World.ownsRow.stored h _ _).1
theorem Spans.drewN {w:World} {B:Nat} {v:Value} {l:List Sp} (h:Spans w B v l) (n:Nat):Spans (w.drewN n) B v l:=h
theorem Spans.alloc {w:World} {B:Nat} {v:Value} {l:List Sp} (h:Spans w B v l) (o:Obj):Spans (w.alloc o) B v l:=World.ownsRow.alloc h o
theorem SpIn.drewN {w:World} {p:Option Addr} {l:List Sp} (h:SpIn w p l) (n:Nat):SpIn (w.drewN n) p l:=h
theorem Spans.base {w:World} {B:Nat} {v:Value} {l:List Sp} (h:Spans w B v l):∀k,v.ownBlock=some k→B≤k:=fun k hk=>(World.ownsRow.lt h k hk).1
def Cur (w:World) (g:Nat) (f t v:Int):Prop :=
 w.cell? ⟨g,0,none⟩=some (.int .i64 f)∧w.cell? ⟨g,1,none⟩=some (.int .i64 t)∧w.cell? ⟨g,2,none⟩=some (.int .i64 v)∧w.frozen? ⟨g,0,none⟩=false∧g<w.heap.size
theorem Cur.new (w:World) (f t v:Int) (ty:TypeId):Cur (w.alloc (.cells #[.int .i64 f,.int .i64 t,.int .i64 v] ty)) w.heap.size f t v:=by
 refine⟨?_,?_,?_,?_,?_⟩<;>simp[World.cell?_alloc_new]
theorem Cur.drewN {w:World} {g:Nat} {f t v:Int} (h:Cur w g f t v) (n:Nat):Cur (w.drewN n) g f t v:=h
theorem Cur.grown {w w':World} {g:Nat} {f t v:Int} {row:Option Nat} (h:Cur w g f t v) (hg:w.grownBy w' row) (hne:row≠some g):Cur w' g f t v:=by
 obtain⟨h1,h2,h3,h4,h5⟩:=h
 exact⟨hg.cell h1 (Ne.symm hne),hg.cell h2 (Ne.symm hne),hg.cell h3 (Ne.symm hne),(World.frozen?_of_block (hg.block g h5 (Ne.symm hne))).trans h4,Nat.lt_of_lt_of_le h5 hg.size⟩
theorem Cur.set {w:World} {g:Nat} {f t v:Int} (h:Cur w g f t v) (x:Int):Cur (w.setCell ⟨g,0,none⟩ (.int .i64 x)) g x t v:=by
 obtain⟨h1,h2,h3,h4,h5⟩:=h
 exact⟨World.cell?_setCell_same _ _ _ h1,(World.cell?_setCell_other _ _ _ _ (by simp)).trans h2,(World.cell?_setCell_other _ _ _ _ (by simp)).trans h3,(World.frozen?_setCell _ _ _ _).trans h4,by simpa[World.setCell] using h5⟩
theorem sp_grownBy_store (w:World) (g o:Nat) (v:Value):w.grownBy (w.setCell ⟨g,o,none⟩ v) (some g) :=
 ⟨rfl,rfl,rfl,by simp,fun k _ hne=>heap_setCell_other w ⟨g,o,none⟩ k v (fun e=>hne (by simp[e]))⟩
theorem Spans.store {w:World} {B g:Nat} {v:Value} {l:List Sp} (h:Spans w B v l) (hne:v.ownBlock≠some g) (o:Nat) (u:Value):Spans (w.setCell ⟨g,o,none⟩ u) B v l :=
 World.ownsRow.kept h (sp_grownBy_store w g o u) (.inr hne)
abbrev mp0:Mp:=(0,[])
def InV (w:World) (v:Value) (l:List Int):Prop:=∃p c,v = .slice p l.length c∧IntsIn w p l∧l.length≤17592186043904
def SpV (w:World) (v:Value) (l:List Sp):Prop:=∃p c,v = .slice p l.length c∧SpIn w p l∧l.length≤17592186043904
def MpIn (w:World) (p:Option Addr) (l:List Mp):Prop :=
 ∀k,k<l.length→∃b off v,p=some ⟨b,off,none⟩∧w.cell? ⟨b,off+k*2,none⟩=some (.int .i64 (l.getD k mp0).1)∧w.cell? ⟨b,off+k*2+1,none⟩=some v∧InV w v (l.getD k mp0).2
def MpV (w:World) (v:Value) (l:List Mp):Prop:=∃p c,v = .slice p l.length c∧MpIn w p l∧l.length≤17592186043904
theorem InV.below {w w':World} {v:Value} {l:List Int} (h:InV w v l) (hb:Below w.heap.size w w'):InV w' v l:=by
 obtain⟨p,c,rfl,h1,h2⟩:=h
 exact⟨p,c,rfl,h1.below hb,h2⟩
theorem SpV.below {w w':World} {v:Value} {l:List Sp} (h:SpV w v l) (hb:Below w.heap.size w w'):SpV w' v l:=by
 obtain⟨p,c,rfl,h1,h2⟩:=h
 exact⟨p,c,rfl,h1.below hb,h2⟩
theorem MpIn.below {w w':World} {p:Option Addr} {l:List Mp} (h:MpIn w p l) (hb:Below w.heap.size w w'):MpIn w' p l:=by
 intro k hk
 obtain⟨b,off,v,e,h1,h2,h3⟩:=h k hk
 have hlt:=World.block_lt_of_cell? w _ h1
 exact⟨b,off,v,e,(hb.cell (p:=⟨b,off+k*2,none⟩) hlt).trans h1,(hb.cell (p:=⟨b,off+k*2+1,none⟩) hlt).trans h2,h3.below hb⟩
theorem MpV.below {w w':World} {v:Value} {l:List Mp} (h:MpV w v l) (hb:Below w.heap.size w w'):MpV w' v l:=by
 obtain⟨p,c,rfl,h1,h2⟩:=h
 exact⟨p,c,rfl,h1.below hb,h2⟩
structure TV where
 a0:Value
 a1:Value
 a2:Value
 a3:Value
 a4:Value
 a5:Value
 a6:Value
 a7:Value
 a8:Value
 a9:Value
 a10:Value
 a11:Value
abbrev TV.agg (x:TV):Value := .agg #[x.a0,x.a1,x.a2,x.a3,x.a4,x.a5,x.a6,x.a7,x.a8,x.a9,x.a10,x.a11]
structure TabV (w:World) (x:TV) (T:Tb):Prop where
 cat:SpV w x.a0 T.cat
 cls:SpV w x.a1 T.cls
 joi:SpV w x.a2 T.joi
 bid:SpV w x.a3 T.bid
 scr:SpV w x.a4 T.scr
 sta:SpV w x.a5 T.sta
 ign:SpV w x.a6 T.ign
 ext:MpV w x.a7 T.ext
 map:MpV w x.a8 T.map
 dec:MpV w x.a9 T.dec
 exc:InV w x.a10 T.exc
 pro:MpV w x.a11 T.pro
theorem TabV.below {w w':World} {x:TV} {T:Tb} (h:TabV w x T) (hb:Below w.heap.size w w'):TabV w' x T :=
 ⟨h.cat.below hb,h.cls.below hb,h.joi.below hb,h.bid.below hb,h.scr.below hb,h.sta.below hb,h.ign.below hb,h.ext.below hb,h.map.below hb,h.dec.below hb,h.exc.below hb,h.pro.below hb⟩
theorem TabV.alloc {w:World} {x:TV} {T:Tb} (h:TabV w x T) (o:Obj):TabV (w.alloc o) x T:=h.below ((Below.refl _ _).alloc (Nat.le_refl _) o)
def BoxT (w:World) (g:Nat) (x:TV):Prop :=
 (w.cell? ⟨g,0,none⟩=some x.a0∧w.cell? ⟨g,1,none⟩=some x.a1∧w.cell? ⟨g,2,none⟩=some x.a2∧w.cell? ⟨g,3,none⟩=some x.a3∧w.cell? ⟨g,4,none⟩=some x.a4∧w.cell? ⟨g,5,none⟩=some x.a5)∧
 (w.cell? ⟨g,6,none⟩=some x.a6∧w.cell? ⟨g,7,none⟩=some x.a7∧w.cell? ⟨g,8,none⟩=some x.a8∧w.cell? ⟨g,9,none⟩=some x.a9∧w.cell? ⟨g,10,none⟩=some x.a10∧w.cell? ⟨g,11,none⟩=some x.a11)
abbrev tabCells (x:TV):Array Value:=#[x.a0,x.a1,x.a2,x.a3,x.a4,x.a5,x.a6,x.a7,x.a8,x.a9,x.a10,x.a11]
theorem BoxT.new (w:World) (x:TV) (t:TypeId):BoxT (w.alloc (.cells (tabCells x) t)) w.heap.size x:=by
 refine⟨⟨?_,?_,?_,?_,?_,?_⟩,⟨?_,?_,?_,?_,?_,?_⟩⟩<;>simp[World.cell?_alloc_new]
theorem BoxT.below {w w':World} {g:Nat} {x:TV} (h:BoxT w g x) (hb:Below w.heap.size w w'):BoxT w' g x:=by
 obtain⟨⟨h0,h1,h2,h3,h4,h5⟩,⟨h6,h7,h8,h9,h10,h11⟩⟩:=h
 have key:∀i v,w.cell? ⟨g,i,none⟩=some v→w'.cell? ⟨g,i,none⟩=some v:=fun i v hc=>(hb.cell (p:=⟨g,i,none⟩) (World.block_lt_of_cell? w _ hc)).trans hc
 exact⟨⟨key _ _ h0,key _ _ h1,key _ _ h2,key _ _ h3,key _ _ h4,key _ _ h5⟩,⟨key _ _ h6,key _ _ h7,key _ _ h8,key _ _ h9,key _ _ h10,key _ _ h11⟩⟩
def BoxM (w:World) (g:Nat) (f:Int) (v:Value):Prop:=w.cell? ⟨g,0,none⟩=some (.int .i64 f)∧w.cell? ⟨g,1,none⟩=some v
theorem BoxM.new (w:World) (f:Int) (v:Value) (t:TypeId):BoxM (w.alloc (.cells #[.int .i64 f,v] t)) w.heap.size f v:=by
 refine⟨?_,?_⟩<;>simp[World.cell?_alloc_new]
theorem BoxM.below {w w':World} {g:Nat} {f:Int} {v:Value} (h:BoxM w g f v) (hb:Below w.heap.size w w'):BoxM w' g f v:=by
 obtain⟨h0,h1⟩:=h
 exact⟨(hb.cell (p:=⟨g,0,none⟩) (World.block_lt_of_cell? w _ h0)).trans h0,(hb.cell (p:=⟨g,1,none⟩) (World.block_lt_of_cell? w _ h1)).trans h1⟩
theorem mp_getD_mem (l:List Mp) (k:Nat) (h:k<l.length):l.getD k mp0∈l:=by simp[h]
theorem take_snoc_mp (l:List Mp) (k:Nat) (h:k<l.length):l.take (k+1)=l.take k++[l.getD k mp0]:=by
 rw[List.take_succ_eq_append_getElem h];simp[h]
def Rsv (w:World):Prop :=
 (w.cell? ⟨0,0,none⟩=some (.int .i64 0)∧w.cell? ⟨0,1,none⟩=some (.int .i64 127)∧w.cell? ⟨0,2,none⟩=some (.int .i64 4352)∧w.cell? ⟨0,3,none⟩=some (.int .i64 4370)∧w.cell? ⟨0,4,none⟩=some (.int .i64 4449)∧w.cell? ⟨0,5,none⟩=some (.int .i64 4469))∧
 (w.cell? ⟨0,6,none⟩=some (.int .i64 4520)∧w.cell? ⟨0,7,none⟩=some (.int .i64 4546)∧w.cell? ⟨0,8,none⟩=some (.int .i64 44032)∧w.cell? ⟨0,9,none⟩=some (.int .i64 55203)∧w.cell? ⟨0,10,none⟩=some (.int .i64 55296)∧w.cell? ⟨0,11,none⟩=some (.int .i64 57343))
theorem Rsv.below {w w':World} (h:Rsv w) (hb:Below w.heap.size w w'):Rsv w':=by
 obtain⟨⟨h0,h1,h2,h3,h4,h5⟩,⟨h6,h7,h8,h9,h10,h11⟩⟩:=h
 have key:∀i v,w.cell? ⟨0,i,none⟩=some v→w'.cell? ⟨0,i,none⟩=some v:=fun i v hc=>(hb.cell (p:=⟨0,i,none⟩) (World.block_lt_of_cell? w _ hc)).trans hc
 exact⟨⟨key _ _ h0,key _ _ h1,key _ _ h2,key _ _ h3,key _ _ h4,key _ _ h5⟩,⟨key _ _ h6,key _ _ h7,key _ _ h8,key _ _ h9,key _ _ h10,key _ _ h11⟩⟩
def Gives (v:Value) (w:World) (e:Ending) (w':World):Prop:=e = .returned v∧Below w.heap.size w w'
theorem drew_ref (w:World) (n:Nat):Below w.heap.size w (w.drewN n):=⟨rfl,rfl,rfl,Nat.le_refl _,fun _ _=>rfl⟩
theorem one_int (w:World) (z:Int) (ty:TypeId):IntsIn (w.alloc (.cells #[.int .i64 z] ty)) (some ⟨w.heap.size,0,none⟩) [z]:=by
 intro k hk
 obtain rfl:k=0:=by simp at hk;omega
 refine⟨_,_,rfl,?_⟩
 simp[World.cell?_alloc_new]
theorem wpList_append_int {W : World} {ops : Array Oper} {rest : List Oper} {o : Oper} {a : Act} {Q : Exit → Act → World → Prop} (s x : Operand)
  (ho:o.op = .call { callee := .builtin .append,args:=#[s,x],argTypes:=#[22,22]})
  (hw:Region.wanted o (yielded ops a.tmps)=true)
  (base:Nat) (v:Value) (xs:List Int) (hs:a.eval s=v) (hown:Ints W base v xs)
  (z:Int) (c g:Nat) (hx:a.eval x = .slice (some ⟨g,0,none⟩) 1 c) (hg:g=W.heap.size)
  (hlen:xs.length≤1099511627775) (hbase:base≤W.heap.size)
  (h:∀v' w',Ints w' base v' (xs++[z])→W.grownBy w' v.ownBlock→wpList Tryz.prog ops Q rest (a.put o.dst v') w'):wpList Tryz.prog ops Q (o::rest) a (W.alloc (.cells #[.int .i64 z] 3)):=by
 subst hg
 refine wpList_append_ints s x ho hw base v xs hs (World.ownsRow.alloc hown _) _ 1 c [z] rfl hx (one_int W z _) (by simp;omega) (by simp;omega) ?_
 intro v' w' h1 h2
 refine h v' w' h1 ?_
 have hA:=World.grownBy_alloc W (.cells #[.int .i64 z] 3) v.ownBlock
 exact⟨h2.os.trans hA.os,h2.tape.trans hA.tape,h2.output.trans hA.output,Nat.le_trans hA.size h2.size,fun i hi hne=>(h2.block i (Nat.lt_of_lt_of_le hi hA.size) hne).trans (hA.block i hi hne)⟩
theorem Ints.base {w:World} {B:Nat} {v:Value} {l:List Int} (h:Ints w B v l):∀k,v.ownBlock=some k→B≤k:=fun k hk=>(World.ownsRow.lt h k hk).1
theorem Ints.alloc {w:World} {B:Nat} {v:Value} {l:List Int} (h:Ints w B v l) (o:Obj):Ints (w.alloc o) B v l:=World.ownsRow.alloc h o
theorem Ints.mono {w:World} {B B':Nat} {v:Value} {l:List Int} (h:Ints w B v l) (hB:B'≤B):Ints w B' v l:=ownsRow_mono h hB
theorem below_appI {B:Nat} {a W w1:World} {v:Value} {l:List Int} (h:Below B a W) (ho:Ints W B v l) (hB:B≤a.heap.size) (hg:W.grownBy w1 v.ownBlock):Below B a w1 :=
 h.grown hg (Nat.le_trans hB h.size) ho.base
abbrev rsvV:Value := .agg #[.int .i64 0,.int .i64 127,.int .i64 4352,.int .i64 4370,.int .i64 4449,.int .i64 4469,.int .i64 4520,.int .i64 4546,.int .i64 44032,.int .i64 55203,.int .i64 55296,.int .i64 57343]
def rsvL:List (Int × Int):=[(0,127),(4352,4370),(4449,4469),(4520,4546),(44032,55203),(55296,57343)]
def hitB (f t:Int) (r:Int × Int):Bool:=meets f t r.1 r.2
theorem rsv_all (f t:Int):resF f t=rsvL.any (hitB f t):=by
 simp[resF,rsvL,hitB]
theorem rsv_index (k : Nat) (hk : k < 6) (w : World) :
  (Instr.index 204 rsvV (.int .i64 k)).run Tryz.prog w = .ok (.agg #[.int .i64 (rsvL.getD k (0,0)).1,.int .i64 (rsvL.getD k (0,0)).2]) w:=by
 have h:k=0∨k=1∨k=2∨k=3∨k=4∨k=5:=by omega
 rcases h with rfl|rfl|rfl|rfl|rfl|rfl
 ·exact(show (Instr.index 204 rsvV (.int .i64 0)).run Tryz.prog w = .ok (.agg #[.int .i64 0,.int .i64 127]) w by kernel_rfl)
 ·exact(show (Instr.index 204 rsvV (.int .i64 1)).run Tryz.prog w = .ok (.agg #[.int .i64 4352,.int .i64 4370]) w by kernel_rfl)
 ·exact(show (Instr.index 204 rsvV (.int .i64 2)).run Tryz.prog w = .ok (.agg #[.int .i64 4449,.int .i64 4469]) w by kernel_rfl)
 ·exact(show (Instr.index 204 rsvV (.int .i64 3)).run Tryz.prog w = .ok (.agg #[.int .i64 4520,.int .i64 4546]) w by kernel_rfl)
 ·exact(show (Instr.index 204 rsvV (.int .i64 4)).run Tryz.prog w = .ok (.agg #[.int .i64 44032,.int .i64 55203]) w by kernel_rfl)
 ·exact(show (Instr.index 204 rsvV (.int .i64 5)).run Tryz.prog w = .ok (.agg #[.int .i64 55296,.int .i64 57343]) w by kernel_rfl)
theorem any_take_snoc {α:Type} (p:α→Bool) (l:List α) (k:Nat) (d:α) (hk:k<l.length):(l.take (k+1)).any p=((l.take k).any p||p (l.getD k d)):=by
 rw[List.take_succ_eq_append_getElem hk,List.any_append,List.any_cons,List.any_nil,Bool.or_false]
 simp[hk]
theorem any_of_take {α:Type} (p:α→Bool) (l:List α) (k:Nat) (h:(l.take k).any p=true):l.any p=true:=by
 rw[List.any_eq_true]at h ⊢
 obtain⟨x,hx,hp⟩:=h
 exact⟨x,List.mem_of_mem_take hx,hp⟩
theorem all_take_snoc {α:Type} (p:α→Bool) (l:List α) (k:Nat) (d:α) (hk:k<l.length):(l.take (k+1)).all p=((l.take k).all p&&p (l.getD k d)):=by
 rw[List.take_succ_eq_append_getElem hk,List.all_append,List.all_cons,List.all_nil,Bool.and_true]
 simp[hk]
theorem all_of_take {α:Type} (p:α→Bool) (l:List α) (k:Nat) (h:(l.take k).all p=false):l.all p=false:=by
 rw[←Bool.not_eq_true,List.all_eq_true]at h ⊢
 exact fun h'=>h fun x hx=>h' x (List.mem_of_mem_take hx)
set_option maxHeartbeats 1000000 in
theorem conRes_any (f t : Int) (w : World) (hr : Rsv w) :
  Calls Tryz.prog 199 #[.int .i64 f,.int .i64 t] w (Gives (.bool (resF f t)) w):=by
 have HA:=Lib.hid (rsv_all f t)
 obtain⟨⟨h0,h1,h2,h3,h4,h5⟩,⟨h6,h7,h8,h9,h10,h11⟩⟩:=hr
 go_enter Tryz.func199,Tryz.ntmps199
 go_wp2
 go_loopw [8] (fun i wr=>∃k:Nat,k≤6∧i = .int .i64 k∧Hid ((rsvL.take k).any (hitB f t)=false)∧Hid (Below w.heap.size w wr)) (fun i _=>6-(intOf i).toNat)
 case atStart=>exact⟨0,by omega,rfl,rfl,Below.refl _ _⟩
 case round =>
  clear h0 h1 h2 h3 h4 h5 h6 h7 h8 h9 h10 h11
  obtain⟨k,hk,rfl,hno,hb⟩:=hrel
  by_cases hlt:k<6
  ·have hix:=rsv_index k hlt
   have hsn:=any_take_snoc (hitB f t) rsvL k (0,0) (by simpa[rsvL] using hlt)
   rw[hno.out,Bool.false_or]at hsn
   obtain⟨⟨a,b⟩,hab⟩:∃r,rsvL.getD k (0,0)=r:=⟨_,rfl⟩
   rw[hab]at hix hsn
   simp only[hitB,meets]at hsn
   simp only at hix
   have HS:=Lib.hid hsn
   clear hsn hab
   by_cases h1:f≤b
   ·by_cases h2:a≤t
    ·have HR:Hid (resF f t=true):=by
      unfold Hid;rw[HA.out];exact any_of_take _ _ (k+1) (by rw[HS.out];simp[h1,h2])
     go_wp2
     go_ret
     rw[HR.out]
     exact⟨rfl,hb.out.alloc hb.out.size _⟩
    ·have HN:Hid ((rsvL.take (k+1)).any (hitB f t)=false):=by unfold Hid;rw[HS.out];simp[h2]
     have d2:decide (a≤t)=false:=decide_eq_false h2
     go_wp2
     go_roundw
     case rel=>exact⟨k+1,by omega,by go_num,HN,hb.out.alloc hb.out.size _⟩
     case measure=>simp[intOf];omega
   ·have HN:Hid ((rsvL.take (k+1)).any (hitB f t)=false):=by unfold Hid;rw[HS.out];simp[h1]
    have d2:decide (f≤b)=false:=decide_eq_false h1
    go_wp2
    go_roundw
    case rel=>exact⟨k+1,by omega,by go_num,HN,hb.out.alloc hb.out.size _⟩
    case measure=>simp[intOf];omega
  ·obtain rfl:k=6:=by omega
   have HR:Hid (resF f t=false):=by unfold Hid;rw[HA.out];exact hno.out
   go_wp2
   go_ret
   rw[HR.out]
   exact⟨rfl,hb.out⟩
theorem conRes_at (f t : Int) (B : Bool) (w : World) (hr : Rsv w) (hB : Hid (resF f t = B)) :
  Calls Tryz.prog 199 #[.int .i64 f,.int .i64 t] w (Gives (.bool B) w):=hB.out▸conRes_any f t w hr
theorem isRes_any (c:Int) (w:World) (hr:Rsv w):Calls Tryz.prog 202 #[.int .i64 c] w (Gives (.bool (resB c)) w):=by
 have HR:=Lib.hid hr
 obtain⟨B,hB⟩:∃B,Hid (resF c c=B):=⟨_,rfl⟩
 have HB:Hid (resB c=B):=hB
 clear hr
 go_enter Tryz.func202,Tryz.ntmps202
 go_wp2_with fail
 refine(conRes_at c c B _ HR.out hB).mono ?_
 rintro e w1 ⟨rfl,hb⟩
 have HB1:=Lib.hid hb
 clear hb
 go_wp2
 go_ret
 rw[HB.out]
 exact⟨rfl,HB1.out⟩
theorem isRes_at (c:Int) (B:Bool) (w:World) (hr:Rsv w) (hB:Hid (resB c=B)):Calls Tryz.prog 202 #[.int .i64 c] w (Gives (.bool B) w):=hB.out▸isRes_any c w hr
theorem low_any (c:Int) (w:World):Calls Tryz.prog 254 #[.int .i64 c] w fun e w'=>e = .returned (.bool (lowB c))∧w=w':=by
 by_cases h1:97≤c
 ·by_cases h2:c≤122
  ·have HB:Hid (lowB c=true):=lowB_iff.2 ⟨h1,h2⟩
   go_enter Tryz.func254,Tryz.ntmps254
   go_wp2
   go_ret
   rw[HB.out]
   exact⟨rfl,rfl⟩
  ·have HB:Hid (lowB c=false):=by unfold Hid lowB;simp[h2]
   have d2:decide (c≤122)=false:=decide_eq_false h2
   go_enter Tryz.func254,Tryz.ntmps254
   go_wp2
   go_ret
   rw[HB.out]
   exact⟨rfl,rfl⟩
 ·have HB:Hid (lowB c=false):=by unfold Hid lowB;simp[h1]
  have d2:decide (97≤c)=false:=decide_eq_false h1
  go_enter Tryz.func254,Tryz.ntmps254
  go_wp2
  go_ret
  rw[HB.out]
  exact⟨rfl,rfl⟩
theorem isNaN_any (c:Int) (w:World):Calls Tryz.prog 279 #[.int .i64 c] w fun e w'=>e = .returned (.bool false)∧w=w':=by
 have h:(c !=c)=false:=by simp
 go_enter Tryz.func279,Tryz.ntmps279
 go_wp2
 go_ret
 exact⟨rfl,rfl⟩
def cmpI (a b:Int):Int:=if a<b then -1 else if b<a then 1 else 0
theorem cmpI_any (a b:Int) (w:World):Calls Tryz.prog 246 #[.int .i64 a,.int .i64 b] w fun e w'=>e = .returned (.int .i64 (cmpI a b))∧w=w':=by
 by_cases h1:a<b
 ·have HC:Hid (cmpI a b = -1):=by unfold Hid cmpI;rw[if_pos h1]
  go_enter Tryz.func246,Tryz.ntmps246
  go_wp2_with (go_at_call 279;refine(isNaN_any _ _).mono ?_;rintro e w' ⟨rfl,rfl⟩)
  go_ret
  rw[HC.out]
  exact⟨rfl,rfl⟩
 ·by_cases h2:b<a
  ·have HC:Hid (cmpI a b=1):=by unfold Hid cmpI;rw[if_neg h1,if_pos h2]
   go_enter Tryz.func246,Tryz.ntmps246
   go_wp2_with (go_at_call 279;refine(isNaN_any _ _).mono ?_;rintro e w' ⟨rfl,rfl⟩)
   go_ret
   rw[HC.out]
   exact⟨rfl,rfl⟩
  ·have HC:Hid (cmpI a b=0):=by unfold Hid cmpI;rw[if_neg h1,if_neg h2]
   go_enter Tryz.func246,Tryz.ntmps246
   go_wp2_with (go_at_call 279;refine(isNaN_any _ _).mono ?_;rintro e w' ⟨rfl,rfl⟩)
   go_ret
   rw[HC.out]
   exact⟨rfl,rfl⟩
theorem cmpI_at (a b z:Int) (w:World) (hz:Hid (cmpI a b=z)):Calls Tryz.prog 246 #[.int .i64 a,.int .i64 b] w fun e w'=>e = .returned (.int .i64 z)∧w=w':=hz.out▸cmpI_any a b w
theorem cmpM_at (f : Int) (v : Value) (c z : Int) (w : World) (hz : Hid (cmpI f c = z)) :
  Calls Tryz.prog 262 #[.agg #[.int .i64 f,v],.int .i64 c] w (Gives (.int .i64 z) w):=by
 go_enter Tryz.func262,Tryz.ntmps262
 go_wp2_with (go_at_call 246;refine(cmpI_at _ _ _ _ hz).mono ?_;rintro e w' ⟨rfl,rfl⟩)
 go_ret
 exact⟨rfl,(Below.refl _ _).alloc (Nat.le_refl _) _⟩
def FndM (l:List Mp) (c:Int) (w:World) (e:Ending) (w':World):Prop :=
 ∃i:Nat,e = .returned (.tuple #[.int .i64 i,.bool (hasM l c)])∧i≤l.length∧(hasM l c=true→i<l.length∧(l.getD i mp0).1=c∧findM l c=(l.getD i mp0).2)∧Below w.heap.size w w'
theorem froms_getD (l:List Mp) (k:Nat):(froms l).getD k 0=(l.getD k mp0).1:=by
 simp only[froms,List.getD_eq_getElem?_getD,List.getElem?_map]
 cases l[k]? <;> rfl
theorem froms_length (l:List Mp):(froms l).length=l.length:=by simp[froms]
theorem hasM_froms (l:List Mp) (c:Int):hasM l c=(froms l).contains c:=by
 rw[Bool.eq_iff_iff,hasM_iff,List.contains_iff_mem]
 simp[froms]
theorem drop_cons_int (l:List Int) (k:Nat) (h:k<l.length):l.drop k=l.getD k 0::l.drop (k+1):=by
 rw[List.drop_eq_getElem_cons h];simp[h]
theorem int_take_lt {l:List Int} {lo hi c:Int} (ha:ascI lo hi l=true) (m:Nat) (hm:m<l.length) (h:l.getD m 0<c):∀s∈l.take (m+1),s<c:=by
 intro s hs
 rw[take_snoc_int l m hm]at hs
 rcases List.mem_append.1 hs with hs|hs
 ·have:=(ascI_mono ha m hm).1 s hs;omega
 ·rw[List.mem_singleton]at hs;subst hs;exact h
theorem int_drop_ge {l:List Int} {lo hi c:Int} (ha:ascI lo hi l=true) (m:Nat) (hm:m<l.length) (h:c≤l.getD m 0):∀s∈l.drop m,c≤s:=by
 intro s hs
 rw[drop_cons_int l m hm]at hs
 rcases List.mem_cons.1 hs with rfl|hs
 ·exact h
 ·have:=(ascI_mono ha m hm).2 s hs;omega
theorem mem_of_first {l : List Int} {lo hi c : Int} (ha : ascI lo hi l = true) (r : Nat) (h1 : ∀ s ∈ l.take r, s < c) (h2 : ∀ s ∈ l.drop r, c ≤ s) :
  (r=l.length→l.contains c=false)∧(r<l.length→c<l.getD r 0→l.contains c=false)∧(r<l.length→l.getD r 0=c→l.contains c=true):=by
 have key:c∈l↔c∈l.drop r:=by
  constructor
  ·intro h
   rw[←List.take_append_drop r l]at h
   rcases List.mem_append.1 h with h|h
   ·have:=h1 c h;omega
   ·exact h
  ·exact List.mem_of_mem_drop
 refine⟨fun h=>?_,fun h hc=>?_,fun h hc=>?_⟩
 ·rw[←Bool.not_eq_true,List.contains_iff_mem,key,h,List.drop_length];simp
 ·rw[←Bool.not_eq_true,List.contains_iff_mem,key,drop_cons_int l r h,List.mem_cons]
  rintro (h3|h3)
  ·omega
  ·have:=(ascI_mono ha r h).2 c h3;omega
 ·rw[List.contains_iff_mem,key,drop_cons_int l r h,hc];simp
theorem findM_at {l:List Mp} {lo hi:Int} (ha:ascI lo hi (froms l)=true) (k:Nat) (h:k<l.length):findM l (l.getD k mp0).1=(l.getD k mp0).2:=by
 have hn:=ascI_nodup ha
 clear ha
 induction l generalizing k with
 | nil=>simp at h
 | cons m r ih =>
  simp only[froms,List.map_cons,List.nodup_cons]at hn
  cases k with
  | zero=>simp[findM]
  | succ k =>
   have hk:k<r.length:=by simpa using h
   have e:((m::r).getD (k+1) mp0)=r.getD k mp0:=by simp
   rw[e,findM,if_neg]
   ·exact ih k hk hn.2
   ·intro he
    apply hn.1
    rw[he]
    exact List.mem_map_of_mem (mp_getD_mem r k hk)
set_option maxRecDepth 100000 in
set_option maxHeartbeats 4000000 in
theorem bsM_any (p : Option Addr) (n cp : Nat) (l : List Mp) (c : Int) (w : World) (hl : l.length = n) (hn : n ≤ 17592186043904) (hin : MpIn w p l) (ha : ascI 0 1114111 (froms l) = true) :
  Calls Tryz.prog 261 #[.slice p n cp,.int .i64 c,.func (.func 262) #[] #[]] w (FndM l c w):=by
 have HI:=Lib.hid hin
 have HL:=Lib.hid hl
 have HA:=Lib.hid ha
 have HF:Hid ((froms l).length=n):=(froms_length l).trans hl
 clear hin hl ha
 go_enter Tryz.func261,Tryz.ntmps261
 go_wp2
 go_loopw [9,10] (fun x y wr=>∃a b:Nat,a≤b∧b≤n∧x = .int .i64 a∧y = .int .i64 b∧Hid (∀s∈(froms l).take a,s<c)∧Hid (∀s∈(froms l).drop b,c≤s)∧Hid (Below w.heap.size w wr)) (fun x y _=>(intOf y-intOf x).toNat)
 case atStart =>
  refine⟨0,n,Nat.zero_le _,Nat.le_refl _,rfl,rfl,by simp[Hid],?_,Below.refl _ _⟩
  unfold Hid;rw[List.drop_of_length_le (Nat.le_of_eq HF.out)];simp
 case round =>
  obtain⟨a,b,hab,hbn,rfl,rfl,h1,h2,hb⟩:=hrel
  by_cases hlt:a<b
  ·obtain⟨m,hm⟩:∃m:Nat,m=(a+b) / 2:=⟨_,rfl⟩
   have hma:a≤m:=by omega
   have hmb:m<b:=by omega
   have hmn:m<l.length:=by rw[HL.out];omega
   have hmf:m<(froms l).length:=by rw[HF.out];omega
   have hmid:((a:Int)+(b:Int)) / 2=(m:Int):=by omega
   obtain⟨g,off,v,rfl,hc1,hc2,_⟩:=(HI.out.below hb.out) m hmn
   obtain⟨f,hs⟩:∃f,(l.getD m mp0).1=f:=⟨_,rfl⟩
   rw[hs]at hc1
   have HS:Hid ((froms l).getD m 0=f):=(froms_getD l m).trans hs
   clear hs hm
   obtain⟨z,hz⟩:∃z,Hid (cmpI f c=z):=⟨_,rfl⟩
   by_cases htc:f<c
   ·have hzn:z<0:=by rw[←hz.out,cmpI,if_pos htc];omega
    have H1:Hid (∀s∈(froms l).take (m+1),s<c):=int_take_lt HA.out m hmf (by rw[HS.out];exact htc)
    have hd:decide (z<0)=true:=decide_eq_true hzn
    go_wp2_with fail
    refine(cmpM_at f v c z _ hz).mono ?_
    rintro e w2 ⟨rfl,hb2⟩
    have HB2:=Lib.hid (hb.out.trans (hb2.mono hb.out.size))
    clear hb2
    go_wp2
    go_roundw
    case rel=>exact⟨m+1,b,by omega,hbn,by go_num,rfl,H1,h2,HB2⟩
    case measure=>simp[intOf];omega
   ·have hzn:0≤z:=by rw[←hz.out,cmpI,if_neg htc];split<;>omega
    have H2:Hid (∀s∈(froms l).drop m,c≤s):=int_drop_ge HA.out m hmf (by rw[HS.out];omega)
    have hd:decide (z<0)=false:=decide_eq_false (by omega)
    go_wp2_with fail
    refine(cmpM_at f v c z _ hz).mono ?_
    rintro e w2 ⟨rfl,hb2⟩
    have HB2:=Lib.hid (hb.out.trans (hb2.mono hb.out.size))
    clear hb2
    go_wp2
    go_roundw
    case rel=>exact⟨a,m,by omega,by omega,rfl,rfl,h1,H2,HB2⟩
    case measure=>simp[intOf];omega
  ·obtain rfl:a=b:=by omega
   obtain⟨f1,f2,f3⟩:=mem_of_first HA.out a h1.out h2.out
   rw[HF.out]at f1 f2 f3
   rw[←hasM_froms]at f1 f2 f3
   by_cases hlt2:a<n
   ·have hal:a<l.length:=by rw[HL.out];exact hlt2
    obtain⟨g,off,v,rfl,hc1,hc2,_⟩:=(HI.out.below hb.out) a hal
    have hto:c≤(froms l).getD a 0:=h2.out _ (by rw[drop_cons_int _ a (by rw[HF.out];exact hlt2)];simp)
    have hfm:=findM_at HA.out a hal
    rw[froms_getD]at f2 f3 hto
    obtain⟨f,hs⟩:∃f,(l.getD a mp0).1=f:=⟨_,rfl⟩
    rw[hs]at hc1 f2 f3 hto hfm
    have HS:=Lib.hid hs
    have HFM:=Lib.hid hfm
    clear hs f1 hfm
    obtain⟨z,hz⟩:∃z,Hid (cmpI f c=z):=⟨_,rfl⟩
    by_cases hcf:c<f
    ·have hz1:(z==0)=false:=by rw[←hz.out,cmpI,if_neg (by omega),if_pos hcf];rfl
     have HV:=Lib.hid (f2 hlt2 hcf)
     clear f2 f3
     go_wp2_with fail
     refine(cmpM_at f v c z _ hz).mono ?_
     rintro e w2 ⟨rfl,hb2⟩
     have HB2:=Lib.hid (hb.out.trans (hb2.mono hb.out.size))
     clear hb2
     go_wp2
     go_ret2
     exact⟨a,by rw[HV.out];rfl,by rw[HL.out];omega,by rw[HV.out];simp,HB2.out⟩
    ·have hz1:(z==0)=true:=by rw[←hz.out,cmpI,if_neg (by omega),if_neg hcf];rfl
     have hfc:f=c:=by omega
     have HV:=Lib.hid (f3 hlt2 hfc)
     have HE:=Lib.hid hfc
     clear f2 f3 hfc
     go_wp2_with fail
     refine(cmpM_at f v c z _ hz).mono ?_
     rintro e w2 ⟨rfl,hb2⟩
     have HB2:=Lib.hid (hb.out.trans (hb2.mono hb.out.size))
     clear hb2
     go_wp2
     go_ret2
     exact⟨a,by rw[HV.out];rfl,by rw[HL.out];omega,fun _=>⟨hal,by rw[HS.out,HE.out],by rw[←HE.out];exact HFM.out⟩,HB2.out⟩
   ·have HV:=Lib.hid (f1 (by omega))
    clear f1 f2 f3
    go_wp2
    go_ret2
    exact⟨a,by rw[HV.out];rfl,by rw[HL.out];omega,by rw[HV.out];simp,hb.out⟩
theorem findMp_any (v0 : Value) (l : List Mp) (c : Int) (w : World) (hv : MpV w v0 l) (ha : ascI 0 1114111 (froms l) = true) :
  Calls Tryz.prog 216 #[v0,.int .i64 c] w (FndM l c w):=by
 obtain⟨p,cp,rfl,hin,hn⟩:=hv
 have HI:=Lib.hid hin
 have HA:=Lib.hid ha
 clear hin ha
 go_enter Tryz.func216,Tryz.ntmps216
 go_wp2_with fail
 refine(bsM_any p l.length cp l c _ rfl hn HI.out HA.out).mono ?_
 rintro e w1 ⟨i,rfl,hi,hf,hb⟩
 have HF:=Lib.hid hf
 have HB:=Lib.hid hb
 clear hf hb
 go_wp2
 go_ret2
 exact⟨i,rfl,hi,HF.out,HB.out⟩
end Go.Proofs.YtblcoicaeeiojaaGreatDoor
namespace Go.Proofs.YtblcoicaeeiojaaGreatDoor
abbrev keyAt (l:List Mp) (i:Nat):Int:=(l.getD i mp0).1
def Ext (l:List Mp) (S S':List Int):Prop :=
 S'.length=S.length∧∀i,i<S.length→(S.getD i 0≠0→S'.getD i 0=S.getD i 0)∧(S.getD i 0=0→S'.getD i 0=0∨S'.getD i 0=siz l (keyAt l i))
def Kn (l:List Mp) (S:List Int) (c:Int):Prop :=
 ∀i,i<S.length→S.getD i 0≠0→S.getD i 0=siz l (keyAt l i)∨(S.getD i 0=19∧Rch l (keyAt l i) c)
def zeros:List Int→Nat
 | []=>0
 | z::r=>(if z=0 then 1 else 0)+zeros r
theorem Ext.refl (l:List Mp) (S:List Int):Ext l S S:=⟨rfl,fun _ _=>⟨fun _=>rfl,fun h => .inl h⟩⟩
theorem siz_pos (l:List Mp) (c:Int):(siz l c:Int)≠0:=by have:=siz_bd l c;omega
theorem Ext.trans {l:List Mp} {A B C:List Int} (h:Ext l A B) (k:Ext l B C):Ext l A C:=by
 refine⟨k.1.trans h.1,fun i hi=>?_⟩
 have h2:=h.2 i hi
 have k2:=k.2 i (by rw[h.1];exact hi)
 refine⟨fun hn=>?_,fun hz=>?_⟩
 ·have e:=h2.1 hn
  rw[k2.1 (by rw[e];exact hn),e]
 ·rcases h2.2 hz with e|e
  ·exact k2.2 e
  ·exact .inr ((k2.1 (by rw[e];exact siz_pos _ _)).trans e)
theorem zeros_le:∀(A B:List Int),B.length=A.length→(∀i,i<A.length→A.getD i 0≠0→B.getD i 0≠0)→zeros B≤zeros A
 | [],B,hl,_=>by
  have:B=[]:=List.eq_nil_of_length_eq_zero hl
  subst this;exact Nat.le_refl _
 | a::A,[],hl,_=>by simp at hl
 | a::A,b::B,hl,h=>by
  have h0:=h 0 (by simp)
  have ih:=zeros_le A B (by simpa using hl) fun i hi hn=>by
   have:=h (i+1) (by simpa using hi)
   simp only[List.getD_cons_succ]at this
   exact this hn
  simp only[List.getD_cons_zero]at h0
  simp only[zeros]
  by_cases ha:a=0
  ·rw[if_pos ha];split<;>omega
  ·rw[if_neg ha,if_neg (h0 ha)];omega
theorem Ext.zeros {l:List Mp} {A B:List Int} (h:Ext l A B):zeros B≤zeros A :=
 zeros_le A B h.1 fun i hi hn=>by rw[(h.2 i hi).1 hn];exact hn
theorem zeros_set:∀(A:List Int) (i:Nat) (v:Int),i<A.length→A.getD i 0=0→v≠0→zeros (A.set i v)+1=zeros A
 | [],_,_,hi,_,_=>by simp at hi
 | a::A,0,v,_,h0,hv=>by
  simp only[List.getD_cons_zero]at h0
  simp only[List.set_cons_zero,zeros,if_pos h0,if_neg hv];omega
 | a::A,i+1,v,hi,h0,hv=>by
  have:=zeros_set A i v (by simpa using hi) (by simpa using h0) hv
  simp only[List.set_cons_succ,zeros];omega
theorem getD_set (A:List Int) (i j:Nat) (v:Int) (hi:i<A.length):(A.set i v).getD j 0=if j=i then v else A.getD j 0:=by
 simp only[List.getD_eq_getElem?_getD,List.getElem?_set]
 by_cases h:i=j
 ·subst h;simp[hi]
 ·rw[if_neg h,if_neg (fun e=>h e.symm)]
theorem Kn.part {l:List Mp} {S S1:List Int} {c d:Int} {i:Nat} (hS:Kn l S c) (hi:i<S.length) (hc:keyAt l i=c) (hd:d∈findM l c) (hE:Ext l (S.set i 19) S1):Kn l S1 d:=by
 intro j hj hn
 have hjS:j<S.length:=by rw[hE.1,List.length_set]at hj;exact hj
 have e2:=hE.2 j (by rw[List.length_set];exact hjS)
 rw[getD_set S i j 19 hi]at e2
 by_cases hji:j=i
 ·rw[if_pos hji]at e2
  have e:=e2.1 (by omega)
  rw[e,hji,hc]
  exact .inr ⟨rfl,.one hd⟩
 ·rw[if_neg hji]at e2
  by_cases h0:S.getD j 0=0
  ·rcases e2.2 h0 with e|e
   ·exact absurd e hn
   ·exact .inl e
  ·have e:=e2.1 h0
   rw[e]
   rcases hS j hjS h0 with h|h
   ·exact .inl h
   ·exact .inr ⟨h.1,h.2.snoc hd⟩
theorem Ext.done {l:List Mp} {S S1:List Int} {i:Nat} {v:Int} (hi:i<S.length) (h0:S.getD i 0=0) (hE:Ext l (S.set i 19) S1) (hv:v=siz l (keyAt l i)):Ext l S (S1.set i v):=by
 have hl:S1.length=S.length:=by rw[hE.1,List.length_set]
 refine⟨by rw[List.length_set,hl],fun j hj=>?_⟩
 have e2:=hE.2 j (by rw[List.length_set];exact hj)
 rw[getD_set S i j 19 hi]at e2
 rw[getD_set S1 i j v (by rw[hl];exact hi)]
 by_cases hji:j=i
 ·subst hji
  rw[if_pos rfl]
  exact⟨fun h=>absurd h0 h,fun _ => .inr hv⟩
 ·rw[if_neg hji]at e2 ⊢
  exact e2
theorem Kn.found {l:List Mp} {S:List Int} {c:Int} {i:Nat} (hS:Kn l S c) (hi:i<S.length) (hc:keyAt l i=c) (hn:S.getD i 0≠0):S.getD i 0=siz l c:=by
 rcases hS i hi hn with h|h
 ·rw[h,hc]
 ·rw[h.1]
  have:=h.2
  rw[hc]at this
  rw[siz_ring this];rfl
def sumZ (l:List Mp) (y:List Int):Nat:=(y.map (siz l)).sum
theorem sumZ_snoc (l:List Mp) (y:List Int) (d:Int):sumZ l (y++[d])=sumZ l y+siz l d:=by simp[sumZ]
end Go.Proofs.YtblcoicaeeiojaaGreatDoor
