/- slices.Insert of one int where there is room. puny: cutAtHyp -/
import Derived.Test.YtblcoicaeeiojaaGreatDoorSSiPmPunSrtA
import Derived.Shelf.Spec.SlicesInsert
import Derived.Test.YtblcoicaeeiojaaGreatDoorSSiPmPunA
import Derived.Test.YtblcoicaeeiojaaGreatDoorSSiPunB
import Derived.Test.YtblcoicaeeiojaaGreatDoorSSiPmPunSpec3
import Derived.Test.YtblcoicaeeiojaaGreatDoorSSiPmUtfD
import Derived.Test.YtblcoicaeeiojaaGreatDoorSSiPmPunEncA
set_option linter.unusedSimpArgs false
set_option linter.unusedVariables false
namespace Go.Proofs.YtblcoicaeeiojaaGreatDoor
open Go.RowKit Go.Sort Go.Lib
theorem row_setCells (g : Nat) (t : TypeId) (fz : Nat × Nat) : ∀ (vs : List Value) (o : Nat) (w : World) (cur : Array Value), w.heap[g]? = some (.cells cur t fz) →
  ∃cur':Array Value,(w.setCells g o vs).heap[g]? = some (.cells cur' t fz)∧cur'.size=cur.size
 | [],o,w,cur,h=>⟨cur,h,rfl⟩
 | v::r,o,w,cur,h=>by
  have h1:(w.setCell ⟨g,o,none⟩ v).heap[g]? = some (.cells (cur.setIfInBounds o v) t fz):=by
   rw[setCell_eq_setRow w g o cur _ _ _ h];exact setRow_heap w g cur _ _ _ h
  obtain⟨c2,h2,h3⟩:=row_setCells g t fz r (o+1) _ _ h1
  exact⟨c2,h2,by rw[h3];simp⟩
theorem grown_setCells (g:Nat):∀(vs:List Value) (o:Nat) (w:World),w.grownBy (w.setCells g o vs) (some g)
 | [],o,w=>grown_refl _ _
 | v::r,o,w=>grownBy_trans (grownBy_store w g o v) (grown_setCells g r (o+1) _)
theorem SRow.of {w:World} {g cap:Nat} {cur:Array Value} {d:Array Int} (h:w.heap[g]? = some (.cells cur 3 (0,0))) (hc:cur.size=cap) (hd:d.size≤cap) (hh:∀i,i<d.size→w.cell? ⟨g,i,none⟩=some (.int .i64 d[i]!)):SRow w g cap d :=
 ⟨cur,h,hc,hd,fun i hi=>by have:=hh i hi;simpa[World.cell?,h] using this⟩
theorem getBang_list (L:List Int) {i:Nat} (h:i<L.length):(L.toArray)[i]! = L.getD i 0:=by
 rw[getElem!_pos _ i (by simpa using h)];simp[h]
theorem putD_getD {L:List Int} {x:Int} {i k:Nat} (hi:i≤L.length) (hk:k<L.length+1):(putD L x i).getD k 0=if k<i then L.getD k 0 else if k=i then x else L.getD (k-1) 0:=by
 unfold putD
 have hl:(L.take i).length=i:=by simp;omega
 rw[List.getD_eq_getElem?_getD]
 by_cases h1:k<i
 ·rw[if_pos h1,List.getElem?_append_left (by omega),List.getElem?_take,if_pos h1];rfl
 ·rw[if_neg h1,List.getElem?_append_right (by omega),hl]
  by_cases h2:k=i
  ·rw[if_pos h2,h2,Nat.sub_self];rfl
  ·rw[if_neg h2]
   obtain⟨j,hj⟩:∃j,k-i=j+1:=⟨k-i-1,by omega⟩
   rw[hj,List.getElem?_cons_succ,List.getElem?_drop]
   rw[show i+j=k-1 by omega];rfl
theorem putD_length {L:List Int} {x:Int} {i:Nat} (hi:i≤L.length):(putD L x i).length=L.length+1:=by unfold putD;simp;omega
theorem pun_stepN {w w1 w2:World} {row:Option Nat} (h:w.grownBy w1 none) (k:w1.grownBy w2 row):w.grownBy w2 row :=
 ⟨k.os.trans h.os,k.tape.trans h.tape,k.output.trans h.output,Nat.le_trans h.size k.size,fun i hi hne=>(k.block i (Nat.lt_of_lt_of_le hi h.size) hne).trans (h.block i hi (by simp))⟩
def InsPost (g cap:Nat) (L:List Int) (w:World) (e:Ending) (w':World):Prop :=
 e = .returned (.slice (some ⟨g,0,none⟩) L.length cap)∧SRow w' g cap L.toArray∧w.grownBy w' (some g)
set_option maxHeartbeats 4000000 in
set_option maxRecDepth 100000 in
theorem insert_end (g cap : Nat) (L : List Int) (x : Int) (w : World) (hs : SRow w g cap L.toArray) (hroom : L.length + 1 ≤ cap) (hc : cap ≤ 4194304) :
  Calls Tryz.prog 287 #[.slice (some ⟨g,0,none⟩) L.length cap,.int .i64 L.length,.slice (some ⟨w.heap.size,0,none⟩) 1 1] (w.alloc (.cells #[.int .i64 x] 3)) (InsPost g cap (putD L x L.length) w):=by
 obtain⟨n,hn⟩:∃n,L.length=n:=⟨_,rfl⟩
 obtain⟨cur,h1,h2,h3,h4⟩:=hs
 have hgl:=(Array.getElem?_eq_some_iff.1 h1).1
 have hA:(w.alloc (.cells #[.int .i64 x] 3)).heap[g]? = some (.cells cur 3 (0,0)):=by
  rw[(World.grownBy_alloc w (.cells #[.int .i64 x] 3) none).block g hgl (by simp)];exact h1
 have hvx:(w.alloc (.cells #[.int .i64 x] 3)).cell? ⟨w.heap.size,0,none⟩=some (.int .i64 x):=by simp[World.cell?_alloc_new]
 obtain⟨W,hW⟩:∃W,w.alloc (.cells #[.int .i64 x] 3)=W:=⟨_,rfl⟩
 have HGW:Hid (w.grownBy W none):=by rw[←hW];exact World.grownBy_alloc _ _ _
 obtain⟨gv,hgv⟩:∃gv,w.heap.size=gv:=⟨_,rfl⟩
 rw[hW,hgv]at hvx
 rw[hW]at hA
 rw[hW,hgv,hn]
 have hne:gv≠g:=by omega
 have hsrc:Go.Src Tryz.prog 1 22 (.slice (some ⟨gv,0,none⟩) 1 1) 1 [.int .i64 x] W:=Go.Src.ofSlice W Tryz.underlying22 ⟨gv,0,none⟩ 1 1 [.int .i64 x] (by simp) (fun j u hj=>by
  rw[Addr.add_lit]
  cases j with
  | zero=>simp at hj;subst hj;exact hvx
  | succ j=>simp at hj) (by simp[Value.oneCell'])
 have HA:=Lib.hid hA
 have hsp:∀j,j < [Value.int .i64 x].length→(W.cell? ⟨g,0+n+j,none⟩).isSome=true:=by
  intro j hj
  simp at hj
  subst hj
  simp[World.cell?,hA];omega
 have hfz:∀j,j < [Value.int .i64 x].length→W.frozen? ⟨g,0+n+j,none⟩=false:=by
  intro j hj;simp[World.frozen?,hA]
 have HSP:=Lib.hid hsp
 have HFZ:=Lib.hid hfz
 have HSRC:=Lib.hid hsrc
 have HR:Hid (SRow (W.setCells g (0+n) [.int .i64 x]) g cap (putD L x n).toArray):=by
  obtain⟨c2,k1,k2⟩:=row_setCells g 3 (0,0) [.int .i64 x] (0+n) W cur hA
  refine SRow.of k1 (by rw[k2];exact h2) (by simp[putD_length (show n≤L.length by omega)];omega) (fun i hi=>?_)
  have hi2:i<L.length+1:=by simpa[putD_length (show n≤L.length by omega)] using hi
  rw[getBang_list _ (by rw[putD_length (show n≤L.length by omega)];exact hi2),putD_getD (by omega) hi2]
  by_cases e:i<n
  ·rw[if_pos e,World.cell?_setCells_out g _ _ _ _ (fun _ _ => .inl (by simp;omega))]
   have:=h4 i (by simp;omega)
   rw[getBang_list _ (by omega)]at this
   simp[World.cell?,hA,this]
  ·rw[if_neg e]
   obtain rfl:i=n:=by omega
   rw[if_pos rfl]
   have:=World.cell?_setCells_in g [.int .i64 x] (0+i) W hsp 0 (by simp)
   simpa using this
 have HGR:Hid (w.grownBy (W.setCells g (0+n) [.int .i64 x]) (some g)):=pun_stepN HGW.out (grown_setCells g _ _ _)
 clear hA hvx hsrc hsp hfz hW hgv h1 h4 HGW
 have HN:=Lib.hid hn
 have h2':=Lib.hid h2
 clear h2
 have hb4:¬(cap=n):=by omega
 go_enter Tryz.func287,Tryz.ntmps287
 go_wp2_with (at_builtin;refine wpList_append_room1 _ rfl _ _ 22 22 rfl 3 _ _ Tryz.underlying22 Tryz.info3 g 0 n cap rfl _ rfl 1 [.int .i64 x] HSRC.out (by omega) HSP.out HFZ.out ?_)
 rw[Nat.zero_add]at HR HGR
 go_ret
 refine⟨?_,HR.out,HGR.out⟩
 rw[putD_length (by rw[HN.out];exact Nat.le_refl n),HN.out]
 rfl
set_option maxHeartbeats 4000000 in
set_option maxRecDepth 100000 in
theorem insert_mid (g cap : Nat) (L : List Int) (x : Int) (i : Nat) (w : World) (hs : SRow w g cap L.toArray) (hi : i < L.length) (hroom : L.length + 1 ≤ cap) (hc : cap ≤ 4194304) :
  Calls Tryz.prog 287 #[.slice (some ⟨g,0,none⟩) L.length cap,.int .i64 i,.slice (some ⟨w.heap.size,0,none⟩) 1 1] (w.alloc (.cells #[.int .i64 x] 3)) (InsPost g cap (putD L x i) w):=by
 obtain⟨n,hn⟩:∃n,L.length=n:=⟨_,rfl⟩
 rw[hn]at hi hroom ⊢
 obtain⟨cur,h1,h2,h3,h4⟩:=hs
 have hgl:=(Array.getElem?_eq_some_iff.1 h1).1
 have hA:(w.alloc (.cells #[.int .i64 x] 3)).heap[g]? = some (.cells cur 3 (0,0)):=by
  rw[(World.grownBy_alloc w (.cells #[.int .i64 x] 3) none).block g hgl (by simp)];exact h1
 have hvx:(w.alloc (.cells #[.int .i64 x] 3)).cell? ⟨w.heap.size,0,none⟩=some (.int .i64 x):=by simp[World.cell?_alloc_new]
 have hvs:(w.alloc (.cells #[.int .i64 x] 3)).shape? w.heap.size=some (3,1):=by rw[World.shape?,heap_alloc_new];rfl
 have hvf:∀k,(w.alloc (.cells #[.int .i64 x] 3)).frozen? ⟨w.heap.size,k,none⟩=false:=by intro k;simp
 obtain⟨W,hW⟩:∃W,w.alloc (.cells #[.int .i64 x] 3)=W:=⟨_,rfl⟩
 have HGW:Hid (w.grownBy W none):=by rw[←hW];exact World.grownBy_alloc _ _ _
 obtain⟨gv,hgv⟩:∃gv,w.heap.size=gv:=⟨_,rfl⟩
 rw[hW,hgv]at hvx hvs hvf
 rw[hW]at hA
 rw[hW,hgv]
 have hne:gv≠g:=by omega
 have hsg:W.shape? g=some (3,cap):=by simp[World.shape?,hA,h2]
 have hov:∀lb cb,(callFunc 299 #[.slice (some ⟨gv,0,none⟩) 1 1,.slice (some ⟨g,i+1,none⟩) lb cb]).run Tryz.prog W = .ok (.value (.bool false)) W:=fun lb cb=>by
  rw[run_callFunc_extern Tryz.func299 (by kernel_rfl) (by kernel_rfl) (by kernel_rfl) (e:=Extern.SlicesOverlaps.overlaps #[22,22] #[4]) (by kernel_rfl),
   Lib.run_overlaps_apart W 22 4 3 Tryz.underlying22 1 Tryz.sizeOf3 ⟨gv,0,none⟩ ⟨g,i+1,none⟩ 1 1 lb cb hne 3 3 1 cap hvs hsg (by omega) (hvf 0) (hvf 1)]
  rfl
 obtain⟨cs,hcs⟩:∃cs,L.map (Value.int .i64)=cs:=⟨_,rfl⟩
 have hcl:cs.length=n:=by rw[←hcs];simpa using hn
 have hsz:(Tryz.prog.info? 3).map (·.size)=some 1:=by
  obtain⟨i0,hi0,h0,h1,h2⟩:=info_parts Tryz.info3
  rw[hi0];simp[h1]
 have hcc:∀j v,cs[j]? = some v→W.cell? ⟨g,j,none⟩=some v:=fun j v hj=>by
  rw[←hcs,List.getElem?_map]at hj
  cases hLj:L[j]? with
  | none=>rw[hLj]at hj;cases hj
  | some y =>
   rw[hLj]at hj
   simp only[Option.map_some,Option.some.injEq]at hj
   obtain⟨k1,k2⟩:=List.getElem?_eq_some_iff.1 hLj
   have:=h4 j (by simpa using k1)
   rw[getBang_list _ k1]at this
   simp only[World.cell?,hA,this]
   rw[←hj]
   simp[List.getD,hLj]
 have hsp:∀j,j<n+1→(W.cell? ⟨g,j,none⟩).isSome=true:=by
  intro j hj
  simp[World.cell?,hA];omega
 have hfz:∀j,W.frozen? ⟨g,j,none⟩=false:=by intro j;simp[World.frozen?,hA]
 have h1c:∀v∈cs,v.oneCell'=true:=by
  intro v hv
  rw[←hcs]at hv
  obtain⟨y,_,rfl⟩:=List.mem_map.1 hv
  rfl
 have hdl:(cs.drop i).length=n-i:=by rw[List.length_drop,hcl]
 have hcp1:∀ty dc sc,(Builtin.copy_ #[22,22] ty #[.slice (some ⟨g,i+1,none⟩) (n-i) dc,.slice (some ⟨g,i,none⟩) (n+1-i) sc]).run Tryz.prog W.drew = .ok (goInt (cs.drop i).length) (W.drew.setCells g (i+1) (cs.drop i)):=fun ty dc sc =>
  run_copy_cells W.drew _ _ ty 3 g (i+1) (n-i) dc ⟨g,i,none⟩ (n+1-i) sc (cs.drop i) Tryz.underlying22 hsz (by rw[hdl];simp only[Nat.min_def];split<;>omega)
   (fun j v hj=>by rw[Addr.add_lit];exact hcc (i+j) v (by rwa[List.getElem?_drop]at hj))
   (fun j hj=>hsp _ (by omega)) (fun j hj=>hfz _) (fun v hv=>h1c v (List.mem_of_mem_drop hv))
 obtain⟨W1,hW1⟩:∃W1,W1=W.drew.setCells g (i+1) (cs.drop i):=⟨_,rfl⟩
 have hsp1:∀k,k<n+1→(W1.cell? ⟨g,k,none⟩).isSome=true:=fun k hk=>by
  rw[hW1]
  exact isSome_setCells g (cs.drop i) (i+1) W.drew (fun j hj=>hsp _ (by omega)) _ (hsp k hk)
 have hcp2:∀(V:World),(∀x,V.cell? x=W1.cell? x)→(∀x,V.frozen? x=W1.frozen? x)→∀ty dc,(Builtin.copy_ #[22,22] ty #[.slice (some ⟨g,i,none⟩) (n+1-i) dc,.slice (some ⟨gv,0,none⟩) 1 1]).run Tryz.prog V = .ok (goInt ([Value.int .i64 x]).length) (V.setCells g i [Value.int .i64 x]):=fun V hWc hWf ty dc =>
  run_copy_cells V _ _ ty 3 g i (n+1-i) dc ⟨gv,0,none⟩ 1 1 [Value.int .i64 x] Tryz.underlying22 hsz (by simp only[List.length_singleton,Nat.min_def];split<;>omega)
   (fun j v hj=>by
    rw[Addr.add_lit,hWc,hW1,World.cell?_setCells_out g _ _ _ _ (fun h _=>absurd h hne)]
    cases j with
    | zero=>simp at hj;subst hj;exact hvx
    | succ j=>simp at hj)
   (fun j hj=>by simp at hj;subst hj;rw[hWc];exact hsp1 _ (by omega)) (fun j hj=>by rw[hWf,hW1,World.frozen?_setCells];exact hfz _) (by simp[Value.oneCell'])
 have HR:∀V:World,V.heap=W1.heap→Hid (SRow (V.setCells g i [.int .i64 x]) g cap (putD L x i).toArray):=by
  intro V hV
  have hWh:W.drew.heap[g]? = some (.cells cur 3 (0,0)):=hA
  obtain⟨c2,k1,k2⟩:=row_setCells g 3 (0,0) (cs.drop i) (i+1) W.drew cur hWh
  rw[←hW1,←hV]at k1
  obtain⟨c3,m1,m2⟩:=row_setCells g 3 (0,0) [.int .i64 x] i V c2 k1
  refine SRow.of m1 (by rw[m2,k2];exact h2) (by simp[putD_length (show i≤L.length by omega)];omega) (fun k hk=>?_)
  have hk2:k<L.length+1:=by simpa[putD_length (show i≤L.length by omega)] using hk
  rw[getBang_list _ (by rw[putD_length (show i≤L.length by omega)];exact hk2),putD_getD (by omega) hk2]
  have hVc:∀a,V.cell? a=W1.cell? a:=fun a=>by simp[World.cell?,hV]
  by_cases e2:k=i
  ·subst e2
   rw[if_neg (by omega),if_pos rfl]
   have:=World.cell?_setCells_in g [.int .i64 x] k V (fun j hj=>by simp at hj;subst hj;rw[hVc];exact hsp1 _ (by omega)) 0 (by simp)
   simpa using this
  ·rw[World.cell?_setCells_out g _ _ _ _ (fun _ _=>by simp;omega),hVc,hW1]
   by_cases e:k<i
   ·rw[if_pos e,World.cell?_setCells_out g _ _ _ _ (fun _ _ => .inl (by simp;omega))]
    have:=h4 k (by simp;omega)
    rw[getBang_list _ (by omega)]at this
    simp[World.cell?,hWh,this]
   ·rw[if_neg e,if_neg e2]
    obtain⟨j,hj⟩:∃j,k=i+1+j:=⟨k-(i+1),by omega⟩
    subst hj
    have:=World.cell?_setCells_in g (cs.drop i) (i+1) W.drew (fun j hj=>hsp _ (by omega)) j (by omega)
    rw[this,List.getElem_drop]
    have e3:i+1+j-1=i+j:=by omega
    rw[e3]
    simp only[←hcs,List.getElem_map]
    congr 2
    rw[List.getD_eq_getElem?_getD,List.getElem?_eq_getElem (by omega)];rfl
 have HGR:∀V:World,V.heap=W1.heap→V.os=W1.os→V.tape=W1.tape→V.output=W1.output→Hid (w.grownBy (V.setCells g i [.int .i64 x]) (some g)):=by
  intro V e1 e2 e3 e4
  have k1:W.grownBy W1 (some g):=by rw[hW1];exact grownBy_trans (grown_drew (grown_refl W (some g))) (grown_setCells g _ _ _)
  have k2:w.grownBy W1 (some g):=pun_stepN HGW.out k1
  have k3:w.grownBy V (some g):=⟨e2.trans k2.os,e3.trans k2.tape,e4.trans k2.output,by rw[e1];exact k2.size,fun k hk hne=>by rw[e1];exact k2.block k hk hne⟩
  exact grownBy_trans k3 (grown_setCells g _ _ _)
 have HN:=Lib.hid hn
 have HRR:=Lib.hid HR
 have HGG:=Lib.hid HGR
 have hz2:¬((i:Int)=(n:Int)):=by omega
 have hw1:IntKind.i64.wrap ((i:Int)+1)=(i:Int)+1:=IntWalk.i64_in _ (by omega)
 have hb1:(0:Int)≤(i:Int)+1:=by omega
 have htn:((i:Int)+1).toNat=i+1:=by omega
 have hb2:¬(cap=i+1):=by omega
 have hb3:(i:Int)≤(n:Int)+1:=by omega
 have hb4:¬(cap=i):=by omega
 have hin:i≤n:=by omega
 have hin2:i≤n+1:=by omega
 have HCP2:=Lib.hid hcp2
 rw[←hW1]at hcp1
 clear hW1 HR HGR hcs hcl hsz hcc hsp hfz h1c hdl hsp1 hvx hvs hvf hsg hA hgl h1 h2 h3 h4 hn hW hgv hcp2
 go_enter Tryz.func287,Tryz.ntmps287
 go_wp2_with (simp only[hov])
 go_region_law (refine step_copy_runI rfl _ _ 22 22 rfl _ _ (by simp[Act.eval,Act.put]) (by simp[Act.eval,Act.put]) (hcp1 _ _ _) ?_)
 have hc2:=HCP2.out W1 (fun _=>rfl) (fun _=>rfl)
 clear HCP2 hcp1 hov
 go_wp2
 go_ret
 refine⟨?_,(HRR.out _ rfl).out,(HGG.out _ rfl rfl rfl rfl).out⟩
 rw[putD_length (by rw[HN.out];omega),HN.out]
 rfl
theorem insert_at (g cap n : Nat) (L M : List Int) (x : Int) (i : Nat) (w : World) (hs : SRow w g cap L.toArray) (hn : Hid (L.length = n)) (hi : i ≤ n) (hroom : n + 1 ≤ cap) (hc : cap ≤ 4194304) (hM : Hid (putD L x i = M)) :
  Calls Tryz.prog 287 #[.slice (some ⟨g,0,none⟩) n cap,.int .i64 i,.slice (some ⟨w.heap.size,0,none⟩) 1 1] (w.alloc (.cells #[.int .i64 x] 3)) (InsPost g cap M w):=by
 obtain rfl:=hn.out
 rw[←hM.out]
 by_cases e:i=L.length
 ·subst e;exact insert_end g cap L x w hs hroom hc
 ·exact insert_mid g cap L x i w hs (by omega) hroom hc
end Go.Proofs.YtblcoicaeeiojaaGreatDoor
namespace Go.Proofs.YtblcoicaeeiojaaGreatDoor
open Go.RowKit Go.Sort
def laI (s:List Int):Nat→Int
 | 0 => -1
 | k+1=>if s.getD k 0=45 then(k:Int)else laI s k
theorem hyK_laI (s:List Int):∀k,(laI s k≤0→hyK s k=0)∧(0<laI s k→(hyK s k:Int)=laI s k)∧-1≤laI s k∧laI s k<k+1
 | 0=>⟨fun _=>rfl,fun h=>by simp[laI]at h,by simp[laI],by simp[laI]⟩
 | k+1=>by
  obtain⟨h1,h2,h3,h4⟩:=hyK_laI s k
  rw[laI,hyK]
  by_cases e:s.getD k 0=45
  ·rw[if_pos e]
   by_cases hk:1≤k
   ·rw[if_pos ⟨hk,e⟩];exact⟨fun h=>by omega,fun _=>rfl,by omega,by omega⟩
   ·have:k=0:=by omega
    subst this
    rw[if_neg (by omega)];exact⟨fun _=>rfl,fun h=>by omega,by omega,by omega⟩
  ·rw[if_neg e,if_neg (fun h=>e h.2)]
   exact⟨h1,h2,h3,by omega⟩
set_option maxHeartbeats 1000000 in
theorem lastidx_at (s : ByteArray) (R : Int) (w : World) (hs : s.size ≤ 1099511627776) (hR : Hid (laI (nums s) s.size = R)) :
  Calls Tryz.prog 302 #[.string s,.int .u8 45] w fun e w'=>e = .returned (.int .i64 R)∧w'=w:=by
 go_enter Tryz.func302,Tryz.ntmps302
 go_wp2
 go_loopw [5] (fun u wr=>∃k:Nat,u = .int .i64 ((k:Int)-1)∧k≤s.size∧Hid (laI (nums s) k=R)∧wr=w) (fun u _=>(intOf u+1).toNat)
 case atStart=>exact⟨s.size,rfl,Nat.le_refl _,hR,rfl⟩
 case round =>
  obtain⟨k,rfl,hk,hz,rfl⟩:=hrel
  by_cases h0:0<k
  ·obtain⟨j,rfl⟩:∃j,k=j+1:=⟨k-1,by omega⟩
   have hjs:j<s.size:=by omega
   have hz2:=hz.out
   rw[laI,pnums_getD s j hjs]at hz2
   obtain⟨c,hc⟩:∃c:Int,(s[j].toNat:Int)=c:=⟨_,rfl⟩
   rw[hc]at hz2
   have hj1:((j+1:Nat):Int)-1=(j:Int):=by omega
   rw[hj1]
   clear hz hj1
   by_cases e:c=45
   ·have d1:(c==45)=true:=by simp[e]
    rw[if_pos e]at hz2
    have HZ:=Lib.hid hz2
    clear hz2 e
    go_wp2
    go_ret
    exact⟨by rw[←HZ.out];rfl,rfl⟩
   ·have d1:(c==45)=false:=by simp[e]
    rw[if_neg e]at hz2
    have HZ:=Lib.hid hz2
    clear hz2 e
    go_wp2
    go_roundw
    case rel=>exact⟨j,rfl,by omega,HZ,by first|rfl|trivial⟩
    case measure=>simp[intOf]
  ·obtain rfl:k=0:=by omega
   have HZ:Hid (R = -1):=hz.out.symm
   obtain rfl:=HZ.out
   clear HZ hz hR
   go_wp2
   go_ret
   exact⟨rfl,rfl⟩
set_option maxHeartbeats 1000000 in
theorem slastidx_at (s : ByteArray) (R : Int) (w : World) (hs : s.size ≤ 1099511627776) (hR : Hid (laI (nums s) s.size = R)) :
  Calls Tryz.prog 295 #[.string s,.int .u8 45] w fun e w'=>e = .returned (.int .i64 R)∧w'=w:=by
 go_enter Tryz.func295,Tryz.ntmps295
 go_wp2_with (go_at_call 302;refine(lastidx_at s R _ hs hR).mono ?_;rintro e w1 ⟨rfl,rfl⟩)
 go_ret
 exact⟨rfl,rfl⟩
theorem nums_ext0 (X:ByteArray) (k:Nat):nums (X.extract 0 k)=(nums X).take k:=by
 unfold nums
 rw[ByteArray.data_extract,Array.toList_extract,List.extract_eq_take_drop,List.drop_zero,Nat.sub_zero,List.map_take]
theorem nums_extE (X:ByteArray) (k:Nat):nums (X.extract k X.size)=(nums X).drop k:=by
 have hs:X.size=X.data.toList.length:=(Array.length_toList (xs:=X.data)).symm
 unfold nums
 rw[ByteArray.data_extract,Array.toList_extract,hs,List.extract_eq_take_drop,List.take_of_length_le (by simp),List.map_drop]
def CutPost (s:ByteArray) (w:World) (e:Ending) (w':World):Prop :=
 ∃B G:ByteArray,e = .returned (.tuple #[.string B,.string G])∧nums B=(nums s).take (hyS (nums s))∧nums G=(nums s).drop (if hyS (nums s)=0 then 0 else hyS (nums s)+1)∧∃q,w'=w.drewN q
set_option maxHeartbeats 1000000 in
theorem cut_at (s : ByteArray) (w : World) (hs : s.size ≤ 1099511627776) :
  Calls Tryz.prog 285 #[.string s] w (CutPost s w):=by
 obtain⟨R,hR⟩:∃R,laI (nums s) s.size=R:=⟨_,rfl⟩
 obtain⟨h1,h2,h3,h4⟩:=hyK_laI (nums s) s.size
 have hh:hyS (nums s)=hyK (nums s) s.size:=by unfold hyS;rw[nums_length]
 rw[←hh,hR]at h1 h2
 rw[hR]at h3 h4
 have HR:=Lib.hid hR
 clear hR hh
 by_cases h0:R≤0
 ·have HH:=Lib.hid (h1 h0)
  clear h1 h2
  go_enter Tryz.func285,Tryz.ntmps285
  go_wp2_with (go_at_call 295;refine(slastidx_at s R _ hs HR).mono ?_;rintro e w1 ⟨rfl,rfl⟩)
  go_ret2
  refine⟨ByteArray.mk #[],s,rfl,?_,?_,0,rfl⟩
  ·rw[HH.out,List.take_zero];rfl
  ·rw[HH.out];rfl
 ·obtain⟨k,rfl⟩:∃k:Nat,R=k:=⟨R.toNat,by omega⟩
  have hk1:hyS (nums s)=k:=by have:=h2 (by omega);omega
  have HH:=Lib.hid hk1
  have hk0:0<k:=by omega
  have hks:k<s.size:=by
   rcases hyK_bd (nums s) (nums s).length with e|e
   ·have e2:hyS (nums s)=0:=e
    omega
   ·have e2:hyS (nums s)<(nums s).length:=e.2.1
    rw[nums_length]at e2;omega
  obtain⟨k1,hk2⟩:∃k1,k+1=k1:=⟨_,rfl⟩
  have i1:(k:Int)+1=(k1:Int):=by omega
  have w1:IntKind.i64.wrap (k1:Int)=(k1:Int):=IntWalk.i64_in _ (by omega)
  have hk1s:k1≤s.size:=by omega
  have HK2:=Lib.hid hk2
  clear h1 h2 h3 h4 hk1 h0 hk2
  go_enter Tryz.func285,Tryz.ntmps285
  go_wp2_with (go_at_call 295;refine(slastidx_at s k _ hs HR).mono ?_;rintro e w2 ⟨rfl,rfl⟩)
  go_quiet (fail)
  go_wp2
  go_ret2
  refine⟨_,_,rfl,?_,?_,_,rfl⟩
  ·rw[HH.out];exact nums_ext0 s k
  ·rw[HH.out,if_neg (by omega),HK2.out];exact nums_extE s k1
theorem SRow.push {W:World} {g cap:Nat} {L:List Int} (h:SRow W g cap L.toArray) (hroom:L.length+1≤cap) (x:Int):SRow (W.setCells g L.length [.int .i64 x]) g cap (L++[x]).toArray∧(∀j,j < [Value.int .i64 x].length→(W.cell? ⟨g,0+L.length+j,none⟩).isSome=true)∧(∀j,j < [Value.int .i64 x].length→W.frozen? ⟨g,0+L.length+j,none⟩=false):=by
 obtain⟨cur,h1,h2,h3,h4⟩:=h
 have hsp:∀j,j < [Value.int .i64 x].length→(W.cell? ⟨g,0+L.length+j,none⟩).isSome=true:=by
  intro j hj
  simp at hj
  subst hj
  simp[World.cell?,h1];omega
 refine⟨?_,hsp,fun j hj=>by simp[World.frozen?,h1]⟩
 obtain⟨c2,k1,k2⟩:=row_setCells g 3 (0,0) [.int .i64 x] L.length W cur h1
 refine SRow.of k1 (by rw[k2];exact h2) (by simpa using hroom) (fun i hi=>?_)
 have hi2:i<L.length+1:=by simpa using hi
 rw[getBang_list _ (by simpa using hi2),List.getD_eq_getElem?_getD]
 by_cases e:i<L.length
 ·rw[List.getElem?_append_left e,World.cell?_setCells_out g _ _ _ _ (fun _ _ => .inl (by simpa using e))]
  have:=h4 i (by simpa using e)
  rw[getBang_list _ e]at this
  simp[World.cell?,h1,this,List.getD]
 ·obtain rfl:i=L.length:=by omega
  rw[List.getElem?_append_right (Nat.le_refl _)]
  have:=World.cell?_setCells_in g [.int .i64 x] L.length W (fun j hj=>by have:=hsp j hj;rwa[Nat.zero_add]at this) 0 (by simp)
  simpa using this
theorem pdecL_step {f b i v m : Nat} {P L : List Int} {n e : Int} {first : Bool} (hne : L ≠ []) (hr : rdN b L = (v, m, e)) :
  (e≠0→pdecL (f+1) P n i b first L=([],e))∧
  (e=0→1≤m∧m≤L.length∧v≤2147483647∧pdecL (f+1) P n i b first L =
   if 1114111<n+(((v+i) / (P.length+1):Nat):Int) then([],8)else if scpB (n+(((v+i) / (P.length+1):Nat):Int))=false then([],12)
   else pdecL f (putD P (n+(((v+i) / (P.length+1):Nat):Int)) ((v+i)%(P.length+1))) (n+(((v+i) / (P.length+1):Nat):Int)) ((v+i)%(P.length+1)+1) (adaptN v (P.length+1) first) false (L.drop m)):=by
 cases L with
 | nil=>exact absurd rfl hne
 | cons c s =>
  rw[pdecL]
  unfold rdN at hr
  cases ht:takeD b 0 (c::s) with
  | none =>
   rw[ht]at hr
   simp only at hr
   injection hr with e1 e2
   injection e2 with e2 e3
   subst e3
   exact⟨fun _=>rfl,fun h=>by simp at h⟩
  | some X =>
   obtain⟨D,r⟩:=X
   rw[ht]at hr
   simp only at hr
   obtain⟨p1,p2,p3,p4⟩:=takeD_parts b (c::s) 0 D r ht
   split at hr
   ·rename_i hb
    injection hr with e1 e2
    injection e2 with e2 e3
    subst e3
    exact⟨fun _=>by simp only;rw[if_pos (.inl hb)],fun h=>by simp at h⟩
   ·rename_i hb
    injection hr with e1 e2
    injection e2 with e2 e3
    subst e1;subst e2;subst e3
    refine⟨fun h=>absurd rfl h,fun _=>⟨p1,p2,by omega,?_⟩⟩
    simp only
    unfold stepD
    simp only
    by_cases hc:1114111<n+(((pvalS b 0 D+i) / (P.length+1):Nat):Int)
    ·rw[if_pos (.inr hc),if_pos hc]
    ·rw[if_neg (by rintro (h|h);exact hb h;exact hc h),if_neg hc,←p3]
end Go.Proofs.YtblcoicaeeiojaaGreatDoor
namespace Go.Proofs.YtblcoicaeeiojaaGreatDoor
open Go.RowKit
theorem strOf_nums (s:ByteArray):strOfNums (nums s)=s:=by
 apply ByteArray.ext
 apply Array.ext'
 have e:((fun n:Int=>UInt8.ofNat n.toNat) ∘ fun b:UInt8=>(b.toNat:Int))=id:=by funext b;simp
 simp[strOfNums,nums,e]
theorem nums_injA {a b:ByteArray} (h:nums a=nums b):a=b:=by rw[←strOf_nums a,←strOf_nums b,h]
theorem beq_nums (a b:ByteArray):(a.toList==b.toList)=decide (nums a=nums b):=by
 rw[ByteArray.toList_eq,ByteArray.toList_eq]
 by_cases h:nums a=nums b
 ·have:=nums_injA h
  subst this
  simp
 ·have h2:¬a.data=b.data:=fun e=>h (by rw[show a=b from ByteArray.ext e])
  simp[h,h2]
def lowBy (s:ByteArray):ByteArray:=strOfNums (lowS (nums s))
theorem lowC_bd {c:Int} (h0:0≤c) (h1:c<256):0≤lowC c∧lowC c<256:=by unfold lowC;split<;>omega
theorem nums_lowB (s:ByteArray):nums (lowBy s)=lowS (nums s):=by
 unfold lowBy
 refine nums_of _ (fun x hx=>?_)
 obtain⟨y,hy,rfl⟩:=List.mem_map.1 hx
 obtain⟨h0,h1⟩:=nums_bytes s y hy
 exact lowC_bd h0 h1
theorem lowB_size (s:ByteArray):(lowBy s).size=s.size:=by unfold lowBy;rw[strOfNums_size,lowS_len,nums_length]
theorem lowS_snoc (l:List Int) (k:Nat) (h:k<l.length):(lowS l).take (k+1)=(lowS l).take k++[lowC (l.getD k 0)]:=by
 rw[take_snoc_int _ k (by rw[lowS_len];exact h)]
 congr 2
 unfold lowS
 simp[List.getD,h]
theorem isX_str (s:ByteArray) (h:4≤s.size):((lowBy (s.extract 0 4)).toList==[120,110,45,45])=isX (nums s):=by
 have e0:([120,110,45,45]:List UInt8)=(ByteArray.mk #[120,110,45,45]).toList:=by decide +kernel
 have e1:nums (ByteArray.mk #[120,110,45,45])=xnS:=by decide +kernel
 rw[e0,beq_nums,nums_lowB,nums_ext0,e1]
 unfold isX
 rw[nums_length]
 simp only[h,decide_true,Bool.true_and]
 by_cases hx:lowS (List.take 4 (nums s))=xnS<;>simp[hx]
theorem isX_short (s:ByteArray) (h:¬4≤s.size):isX (nums s)=false:=by
 unfold isX;rw[nums_length];simp[h]
theorem isX_len {s:List Int} (h:isX s=true):4≤s.length:=by
 unfold isX at h;simp at h;exact h.1
theorem ascQ_bad {l:List Int} {k:Nat} (hk:k<l.length) (h:l.getD k 0<0∨127<l.getD k 0):ascQ l=false:=by
 cases ha:ascQ l with
 | false=>rfl
 | true =>
  have:=List.all_eq_true.1 ha (l.getD k 0) (by simp[hk])
  simp only[Bool.and_eq_true,decide_eq_true_eq]at this
  omega
theorem ascQ_ok {l:List Int} (h:∀j,j<l.length→0≤l.getD j 0∧l.getD j 0≤127):ascQ l=true:=by
 unfold ascQ
 rw[List.all_eq_true]
 intro c hc
 obtain⟨i,hi,rfl⟩:=List.getElem_of_mem hc
 have:=h i hi
 have e:l.getD i 0=l[i]:=by simp[hi]
 rw[e]at this
 simp only[Bool.and_eq_true,decide_eq_true_eq]
 exact this
theorem ascQ_at {l:List Int} (h:ascQ l=true) {k:Nat} (hk:k<l.length):0≤l.getD k 0∧l.getD k 0≤127:=by
 have:=List.all_eq_true.1 h (l.getD k 0) (by simp[hk])
 simpa only[Bool.and_eq_true,decide_eq_true_eq] using this
theorem any_badA {P:List Int} {k:Nat} (hk:k<P.length) (h:127<P.getD k 0):(P.any fun c=>decide (127<c))=true:=by
 rw[List.any_eq_true]
 exact⟨P.getD k 0,by simp[hk],decide_eq_true h⟩
theorem any_okA {P:List Int} (h:∀k,k<P.length→P.getD k 0≤127):(P.any fun c=>decide (127<c))=false:=by
 rw[List.any_eq_false]
 intro c hc
 obtain⟨i,hi,rfl⟩:=List.getElem_of_mem hc
 have:=h i hi
 have e:P.getD i 0=P[i]:=by simp[hi]
 rw[e]at this
 simp;omega
theorem labS_byte {l X:List Int} {e:Int} (h:labS l=(X,e)) (hb:∀Y f,encP l=(Y,f)→∀c∈Y,0≤c∧c<256):∀c∈X,0≤c∧c<256:=by
 unfold labS at h
 split at h
 ·injection h with h1 h2;rw[←h1];simp
 ·split at h
  ·rename_i ha
   unfold longE at h
   split at h
   ·injection h with h1 h2;rw[←h1];simp
   ·injection h with h1 h2
    rw[←h1]
    intro c hc
    have:=List.all_eq_true.1 ha c hc
    simp only[Bool.and_eq_true,decide_eq_true_eq]at this
    omega
  ·split at h
   ·injection h with h1 h2;rw[←h1];simp
   ·unfold longE at h
    split at h
    ·injection h with h1 h2;rw[←h1];simp
    ·injection h with h1 h2
     rw[←h1]
     intro c hc
     rcases List.mem_append.1 hc with hc|hc
     ·simp only[xnS,List.mem_cons,List.not_mem_nil,or_false]at hc
      omega
     ·exact hb _ _ rfl c hc
theorem labS_nil:labS []=([],10):=rfl
theorem labS_asc {l:List Int} (h:l≠[]) (ha:ascQ l=true):labS l=longE l:=by unfold labS;rw[if_neg h,if_pos ha]
theorem labS_err {l X:List Int} {e:Int} (h:l≠[]) (ha:ascQ l=false) (hE:encP l=(X,e)) (he:e≠0):labS l=([],e):=by
 unfold labS;rw[if_neg h,if_neg (by rw[ha];simp),hE,if_pos he]
theorem labS_enc {l X:List Int} (h:l≠[]) (ha:ascQ l=false) (hE:encP l=(X,0)):labS l=longE (xnS++X):=by
 unfold labS;rw[if_neg h,if_neg (by rw[ha];simp),hE,if_neg (by simp)]
theorem size_pos_neA (S:ByteArray) (h:¬S.size=0):(S.toList==[])=false:=by
 rw[ByteArray.toList_eq]
 cases hd:S.data.toList with
 | nil=>exact absurd (by rw[show S.size=S.data.toList.length from rfl,hd];rfl) h
 | cons c r=>rfl
theorem size_zero_eqA (S:ByteArray) (h:S.size=0):(S.toList==[])=true:=by
 rw[ByteArray.toList_eq]
 have:S.data.toList=[]:=List.eq_nil_of_length_eq_zero h
 rw[this];rfl
set_option maxRecDepth 100000
theorem ala_ret8 {a b:Int} (h:a=b):Ending.returned (.int .u8 a) = .returned (.int .u8 b):=by rw[h]
set_option maxHeartbeats 400000 in
theorem lowb_at (c L : Int) (w : World) (h0 : 0 ≤ c) (h1 : c ≤ 255) (hL : Hid (lowC c = L)) :
  Calls Tryz.prog 271 #[.int .u8 c] w fun e w'=>e = .returned (.int .u8 L)∧w'=w:=by
 rcases(show c<65∨(65≤c∧c≤90)∨(¬c<65∧90<c) by omega)with h|⟨h2,h3⟩|⟨h2,h3⟩
 ·have HL:Hid (c=L):=by unfold Hid;rw[←hL.out];unfold lowC;rw[if_neg (by omega)]
  have hn:¬65≤c:=by omega
  clear hL
  go_enter Tryz.func271,Tryz.ntmps271
  go_wp2
  go_ret
  exact⟨ala_ret8 HL.out,rfl⟩
 ·have HL:Hid (c+32=L):=by unfold Hid;rw[←hL.out];unfold lowC;rw[if_pos (by omega)]
  have hw1:IntKind.u8.wrap (c-65)=c-65:=by rw[IntKind.wrap_u8];omega
  have hw2:IntKind.u8.wrap (c-65+97)=c+32:=by rw[IntKind.wrap_u8];omega
  clear hL
  go_enter Tryz.func271,Tryz.ntmps271
  go_wp2
  go_ret
  exact⟨ala_ret8 HL.out,rfl⟩
 ·have HL:Hid (c=L):=by unfold Hid;rw[←hL.out];unfold lowC;rw[if_neg (by omega)]
  have hn:¬c≤90:=by omega
  have hn2:65≤c:=by omega
  clear hL
  go_enter Tryz.func271,Tryz.ntmps271
  go_wp2
  go_ret
  exact⟨ala_ret8 HL.out,rfl⟩
def padT (L:List Int) (n:Nat):List Int:=L++List.replicate (n-L.length) 0
theorem padT_nil (n:Nat):padT [] n=List.replicate n 0:=by simp[padT]
theorem padT_full (L:List Int) (n:Nat) (h:n≤L.length):padT L n=L:=by unfold padT;rw[Nat.sub_eq_zero_of_le h];simp
theorem padT_set (L:List Int) (n:Nat) (c:Int) (h:L.length<n):(padT L n).set L.length c=padT (L++[c]) n:=by
 unfold padT
 rw[List.set_append,if_neg (by omega),Nat.sub_self]
 obtain⟨m,hm⟩:∃m,n-L.length=m+1:=⟨n-L.length-1,by omega⟩
 rw[hm,List.replicate_succ,List.set_cons_zero,List.length_append,List.length_singleton,show n-(L.length+1)=m by omega]
 simp
theorem padT_at (L:List Int) (n:Nat) (t:IntKind) (h:L.length<n):((padT L n).map (Value.int t))[L.length]? = some (.int t 0):=by
 unfold padT
 obtain⟨m,hm⟩:∃m,n-L.length=m+1:=⟨n-L.length-1,by omega⟩
 rw[hm,List.getElem?_map,List.getElem?_append_right (Nat.le_refl _)]
 simp
set_option maxHeartbeats 2000000 in
theorem lower_at (s S : ByteArray) (w : World) (hs : s.size ≤ 140737488355328) (hS : Hid (lowBy s = S)) :
  Calls Tryz.prog 229 #[.string s] w fun e w'=>e = .returned (.string S)∧Below w.heap.size w w':=by
 obtain⟨i0,hi,hz0,hz1,hz2⟩:=info_parts Tryz.info5
 obtain⟨L,hL⟩:∃L,lowS (nums s)=L:=⟨_,rfl⟩
 have HLN:Hid (L.length=s.size):=by unfold Hid;rw[←hL,lowS_len,nums_length]
 have HSV:Hid (strOfNums L=S):=by unfold Hid;rw[←hS.out,←hL];rfl
 have HL:=Lib.hid hL
 clear hL hS
 go_enter Tryz.func229,Tryz.ntmps229
 go_wp2_with (at_make;refine wpList_make_full _ rfl _ _ 47 rfl w.heap.size 5 i0 (.int .u8 0) 1 Tryz.underlying47 hi hz0 hz1 .i64 .i64 _ _ s.size rfl rfl rfl rfl (by rw[hz2];omega) (by unfold maxLen;omega) (Nat.le_refl _) ?_;intro w0 hown0 hgrow0)
 have hrow0:w0.ownsRow w.heap.size 5 1 (.slice (some ⟨w.heap.size,0,none⟩) s.size s.size) s.size ((padT [] s.size).map (.int .u8)):=by
  have e:(madeCells (Value.int .u8 0).cells (s.size*1)).toList=List.replicate (s.size*1) (.int .u8 0):=toList_madeCells_one _ _
  rw[e]at hown0
  simpa[padT_nil] using hown0
 have hbel0:Below w.heap.size w w0:=(Below.refl _ _).grown hgrow0 (Nat.le_refl _) (by simp)
 have HR0:=Lib.hid hrow0
 have HB0:=Lib.hid hbel0
 clear hrow0 hbel0 hown0 hgrow0
 go_loopw [10] (fun i wr=>∃k:Nat,k≤s.size∧i = .int .i64 k∧Hid (wr.ownsRow w.heap.size 5 1 (.slice (some ⟨w.heap.size,0,none⟩) s.size s.size) s.size ((padT (L.take k) s.size).map (.int .u8)))∧Hid (Below w.heap.size w wr)) (fun i _=>s.size-(intOf i).toNat)
 case atStart=>exact⟨0,Nat.zero_le _,rfl,HR0,HB0⟩
 case round =>
  obtain⟨k,hk,rfl,ho,hbel⟩:=hrel
  by_cases hlt:k<s.size
  ·have htl:(L.take k).length=k:=by rw[List.length_take,HLN.out];omega
   have hc:=ho.out.cellAt k (by omega)
   have hpa:=padT_at (L.take k) s.size .u8 (by omega)
   rw[htl]at hpa
   rw[hpa]at hc
   have hf:=ho.out.frozenAt k
   obtain⟨c,hcc⟩:∃c:Int,(s[k].toNat:Int)=c:=⟨_,rfl⟩
   have hc0:0≤c:=by omega
   have hc1:c≤255:=by have:=s[k].toNat_lt;omega
   obtain⟨y,hy⟩:∃y,lowC c=y:=⟨_,rfl⟩
   have HY:=Lib.hid hy
   have hsn:L.take (k+1)=L.take k++[y]:=by
    rw[←HL.out,lowS_snoc _ k (by rw[nums_length];exact hlt),pnums_getD s k hlt,hcc,hy]
   have hst:=ho.out.stored k (.int .u8 y)
   have hps:=padT_set (L.take k) s.size y (by omega)
   rw[htl,←hsn]at hps
   rw[←List.map_set,hps]at hst
   have HA2:=Lib.hid hst.1
   have HB2:=Lib.hid (hbel.out.setCell (p:=⟨w.heap.size,k,none⟩) (Nat.le_refl _) (.int .u8 y))
   clear hst ho hpa htl hy hsn hps hbel
   go_wp2_with (go_at_call 271;refine(lowb_at c y _ hc0 hc1 HY).mono ?_;rintro e w5 ⟨rfl,rfl⟩)
   go_roundw
   case rel=>exact⟨k+1,by omega,by go_num,HA2,HB2⟩
   case measure=>simp[intOf];omega
  ·obtain rfl:k=s.size:=by omega
   have h1:=ho.out
   rw[List.take_of_length_le (by rw[HLN.out];exact Nat.le_refl _),padT_full _ _ (by rw[HLN.out];exact Nat.le_refl _)]at h1
   have hcv:=conv_own h1
   rw[HSV.out]at hcv
   clear h1 ho
   go_wp2
   go_ret
   exact⟨rfl,hbel.out⟩
set_option maxHeartbeats 1000000 in
theorem is_at (s : ByteArray) (B : Bool) (w : World) (hs : s.size ≤ 140737488355328) (hB : Hid (isX (nums s) = B)) :
  Calls Tryz.prog 158 #[.string s] w fun e w'=>e = .returned (.bool B)∧Below w.heap.size w w':=by
 by_cases h4:4≤s.size
 ·obtain⟨S,hS⟩:∃S,lowBy (s.extract 0 4)=S:=⟨_,rfl⟩
  have hq:=isX_str s h4
  rw[hS,hB.out]at hq
  have HS:=Lib.hid hS
  have hes:(s.extract 0 4).size≤140737488355328:=by rw[ByteArray.size_extract];omega
  have HES:=Lib.hid hes
  clear hS hes hB
  go_enter Tryz.func158,Tryz.ntmps158
  go_wp2_with (go_at_call 229;refine(lower_at _ S _ HES.out HS).mono ?_;rintro e w5 ⟨rfl,hb5⟩)
  go_ret
  exact⟨rfl,hb5⟩
 ·have HB:Hid (B=false):=by unfold Hid;rw[←hB.out];exact isX_short s h4
  clear hB
  go_enter Tryz.func158,Tryz.ntmps158
  go_wp2
  go_ret
  exact⟨by rw[HB.out];rfl,Below.refl _ _⟩
set_option maxHeartbeats 1000000 in
theorem ascii_at (p : Option Addr) (n cap : Nat) (l : List Int) (B : Bool) (w : World) (hin : IntsIn w p l) (hn : Hid (l.length = n)) (hn2 : n ≤ 17592186043904) (hB : Hid (ascQ l = B)) :
  Calls Tryz.prog 112 #[.slice p n cap] w fun e w'=>e = .returned (.bool B)∧w'=w:=by
 have HI:=Lib.hid hin
 clear hin
 go_enter Tryz.func112,Tryz.ntmps112
 go_wp2
 go_loopw [7] (fun i wr=>∃k:Nat,k≤n∧i = .int .i64 k∧Hid (∀j,j<k→0≤l.getD j 0∧l.getD j 0≤127)∧wr=w) (fun i _=>n-(intOf i).toNat)
 case atStart=>exact⟨0,Nat.zero_le _,rfl,fun j hj=>by omega,rfl⟩
 case round =>
  obtain⟨k,hk,rfl,hall,rfl⟩:=hrel
  by_cases hlt:k<n
  ·have hkl:k<l.length:=by rw[hn.out];exact hlt
   obtain⟨b,off,rfl,hck⟩:=HI.out k hkl
   obtain⟨x,hx⟩:∃x,l.getD k 0=x:=⟨_,rfl⟩
   rw[hx]at hck
   rcases(show x<0∨(¬x<0∧127<x)∨(¬x<0∧¬127<x) by omega)with h|⟨h,h2⟩|⟨h,h2⟩
   ·have HB:Hid (B=false):=by unfold Hid;rw[←hB.out];exact ascQ_bad hkl (by rw[hx];exact .inl h)
    clear hx hkl hall hB
    go_wp2
    go_ret
    exact⟨by rw[HB.out];rfl,rfl⟩
   ·have HB:Hid (B=false):=by unfold Hid;rw[←hB.out];exact ascQ_bad hkl (by rw[hx];exact .inr h2)
    clear hx hkl hall hB
    go_wp2
    go_ret
    exact⟨by rw[HB.out];rfl,rfl⟩
   ·have HA:Hid (∀j,j<k+1→0≤l.getD j 0∧l.getD j 0≤127):=fun j hj=>by
     by_cases e:j=k
     ·subst e;rw[hx];omega
     ·exact hall.out j (by omega)
    clear hx hkl hall
    go_wp2
    go_roundw
    case rel=>exact⟨k+1,by omega,by go_num,HA,by first|rfl|trivial⟩
    case measure=>simp[intOf];omega
  ·obtain rfl:k=n:=by omega
   have HB:Hid (B=true):=by unfold Hid;rw[←hB.out];exact ascQ_ok (fun j hj=>hall.out j (by rw[←hn.out];exact hj))
   clear hall hB
   go_wp2
   go_ret
   exact⟨by rw[HB.out];rfl,rfl⟩
set_option maxHeartbeats 1000000 in
theorem onlyasc_at (s : ByteArray) (B : Bool) (w : World) (hs : s.size ≤ 140737488355328) (hB : Hid (((nums s).any fun c => decide (127 < c)) = !B)) :
  Calls Tryz.prog 230 #[.string s] w fun e w'=>e = .returned (.bool B)∧w'=w:=by
 go_enter Tryz.func230,Tryz.ntmps230
 go_wp2
 go_loopw [6] (fun i wr=>∃k:Nat,k≤s.size∧i = .int .i64 k∧Hid (∀j,j<k→(nums s).getD j 0≤127)∧wr=w) (fun i _=>s.size-(intOf i).toNat)
 case atStart=>exact⟨0,Nat.zero_le _,rfl,fun j hj=>by omega,rfl⟩
 case round =>
  obtain⟨k,hk,rfl,hall,rfl⟩:=hrel
  by_cases hlt:k<s.size
  ·have hgd:=pnums_getD s k hlt
   obtain⟨c,hcc⟩:∃c:Int,(s[k].toNat:Int)=c:=⟨_,rfl⟩
   rw[hcc]at hgd
   by_cases hc:127<c
   ·have HB:Hid (B=false):=by
     have h1:=hB.out
     rw[any_badA (k:=k) (by rw[nums_length];exact hlt) (by rw[hgd];exact hc)]at h1
     unfold Hid
     cases B with
     | false=>rfl
     | true=>exact absurd h1 (by simp)
    clear hgd hall hB
    go_wp2
    go_ret
    exact⟨by rw[HB.out];rfl,rfl⟩
   ·have HA:Hid (∀j,j<k+1→(nums s).getD j 0≤127):=fun j hj=>by
     by_cases e:j=k
     ·subst e;rw[hgd];omega
     ·exact hall.out j (by omega)
    have hd:decide (127<c)=false:=decide_eq_false hc
    clear hgd hall
    go_wp2
    go_roundw
    case rel=>exact⟨k+1,by omega,by go_num,HA,by first|rfl|trivial⟩
    case measure=>simp[intOf];omega
  ·obtain rfl:k=s.size:=by omega
   have HB:Hid (B=true):=by
    have h1:=hB.out
    rw[any_okA (fun j hj=>hall.out j (by rw[nums_length]at hj;exact hj))]at h1
    unfold Hid
    cases B with
    | false=>exact absurd h1 (by simp)
    | true=>rfl
   clear hall hB
   go_wp2
   go_ret
   exact⟨by rw[HB.out];rfl,rfl⟩
set_option maxHeartbeats 2000000 in
theorem elems_at (s : ByteArray) (w : World) (hs : s.size ≤ 1048576) :
  Calls Tryz.prog 232 #[.string s] w fun e w'=>∃v,e = .returned v∧Ints w' w.heap.size v (nums s)∧Below w.heap.size w w':=by
 obtain⟨i0,hi,hz0,hz1,hz2⟩:=info_parts Tryz.info3
 obtain⟨L,hL⟩:∃L,nums s=L:=⟨_,rfl⟩
 have HLN:Hid (L.length=s.size):=by unfold Hid;rw[←hL,nums_length]
 have HL:=Lib.hid hL
 clear hL
 go_enter Tryz.func232,Tryz.ntmps232
 go_wp2_with (at_make;refine wpList_make_full _ rfl _ _ 22 rfl w.heap.size 3 i0 (.int .i64 0) 1 Tryz.underlying22 hi hz0 hz1 .i64 .i64 _ _ s.size rfl rfl rfl rfl (by rw[hz2];omega) (by unfold maxLen;omega) (Nat.le_refl _) ?_;intro w0 hown0 hgrow0)
 have hrow0:w0.ownsRow w.heap.size 3 1 (.slice (some ⟨w.heap.size,0,none⟩) s.size s.size) s.size ((padT [] s.size).map (.int .i64)):=by
  have e:(madeCells (Value.int .i64 0).cells (s.size*1)).toList=List.replicate (s.size*1) (.int .i64 0):=toList_madeCells_one _ _
  rw[e]at hown0
  simpa[padT_nil] using hown0
 have hbel0:Below w.heap.size w w0:=(Below.refl _ _).grown hgrow0 (Nat.le_refl _) (by simp)
 have HR0:=Lib.hid hrow0
 have HB0:=Lib.hid hbel0
 clear hrow0 hbel0 hown0 hgrow0
 go_loopw [10] (fun i wr=>∃k:Nat,k≤s.size∧i = .int .i64 k∧Hid (wr.ownsRow w.heap.size 3 1 (.slice (some ⟨w.heap.size,0,none⟩) s.size s.size) s.size ((padT (L.take k) s.size).map (.int .i64)))∧Hid (Below w.heap.size w wr)) (fun i _=>s.size-(intOf i).toNat)
 case atStart=>exact⟨0,Nat.zero_le _,rfl,HR0,HB0⟩
 case round =>
  obtain⟨k,hk,rfl,ho,hbel⟩:=hrel
  by_cases hlt:k<s.size
  ·have htl:(L.take k).length=k:=by rw[List.length_take,HLN.out];omega
   have hc:=ho.out.cellAt k (by omega)
   have hpa:=padT_at (L.take k) s.size .i64 (by omega)
   rw[htl]at hpa
   rw[hpa]at hc
   have hf:=ho.out.frozenAt k
   obtain⟨c,hcc⟩:∃c:Int,(s[k].toNat:Int)=c:=⟨_,rfl⟩
   have hc0:0≤c:=by omega
   have hc1:c≤255:=by have:=s[k].toNat_lt;omega
   have hw:IntKind.i64.wrap c=c:=IntWalk.i64_in _ (by omega)
   have hsn:L.take (k+1)=L.take k++[c]:=by
    rw[take_snoc_int L k (by rw[HLN.out];exact hlt),←HL.out,pnums_getD s k hlt,hcc]
   have hst:=ho.out.stored k (.int .i64 c)
   have hps:=padT_set (L.take k) s.size c (by omega)
   rw[htl,←hsn]at hps
   rw[←List.map_set,hps]at hst
   have HA2:=Lib.hid hst.1
   have HB2:=Lib.hid (hbel.out.setCell (p:=⟨w.heap.size,k,none⟩) (Nat.le_refl _) (.int .i64 c))
   clear hst ho hpa htl hsn hps hbel
   go_wp2
   go_roundw
   case rel=>exact⟨k+1,by omega,by go_num,HA2,HB2⟩
   case measure=>simp[intOf];omega
  ·obtain rfl:k=s.size:=by omega
   have h1:=ho.out
   rw[List.take_of_length_le (by rw[HLN.out];exact Nat.le_refl _),padT_full _ _ (by rw[HLN.out];exact Nat.le_refl _)]at h1
   have HO:Hid (Ints wr w.heap.size (.slice (some ⟨w.heap.size,0,none⟩) s.size s.size) L):=by
    unfold Hid Ints;rw[HLN.out];exact h1
   clear h1 ho
   go_wp2
   go_ret
   exact⟨_,rfl,by rw[HL.out];exact HO.out,hbel.out⟩
set_option maxHeartbeats 2000000 in
theorem encasc_at (p : Option Addr) (n cap : Nat) (l X : List Int) (er : Int) (S : ByteArray) (w : World) (hin : IntsIn w p l) (hn : Hid (l.length = n)) (hn2 : n ≤ 17592186043904) (ha : Hid (ascQ l = true)) (hE : Hid (longE l = (X, er))) (hS : Hid (strOfNums X = S)) :
  Calls Tryz.prog 113 #[.slice p n cap] w (StrErr S er w):=by
 have HI:=Lib.hid hin
 clear hin
 by_cases hbig:63<n
 ·have hE':=hE.out
  unfold longE at hE'
  rw[if_pos (by rw[hn.out];exact hbig)]at hE'
  injection hE' with e1 e2
  subst e1;subst e2
  have HS:Hid (S=ByteArray.mk #[]):=hS.out.symm
  clear hE hS
  go_enter Tryz.func113,Tryz.ntmps113
  go_wp2
  go_ret2
  exact⟨by rw[HS.out];rfl,Below.refl _ _⟩
 have hE':=hE.out
 unfold longE at hE'
 rw[if_neg (by rw[hn.out];exact hbig)]at hE'
 injection hE' with e1 e2
 subst e1;subst e2
 obtain⟨i0,hi,hz0,hz1,hz2⟩:=info_parts Tryz.info5
 have hnb:n≤63:=by omega
 clear hE hbig
 go_enter Tryz.func113,Tryz.ntmps113
 go_wp2_with (at_make;refine wpList_make_full _ rfl _ _ 47 rfl w.heap.size 5 i0 (.int .u8 0) 1 Tryz.underlying47 hi hz0 hz1 .i64 .i64 _ _ n rfl rfl rfl rfl (by rw[hz2];omega) (by unfold maxLen;omega) (Nat.le_refl _) ?_;intro w0 hown0 hgrow0)
 have hrow0:w0.ownsRow w.heap.size 5 1 (.slice (some ⟨w.heap.size,0,none⟩) n n) n ((padT [] n).map (.int .u8)):=by
  have e:(madeCells (Value.int .u8 0).cells (n*1)).toList=List.replicate (n*1) (.int .u8 0):=toList_madeCells_one _ _
  rw[e]at hown0
  simpa[padT_nil] using hown0
 have hbel0:Below w.heap.size w w0:=(Below.refl _ _).grown hgrow0 (Nat.le_refl _) (by simp)
 have HR0:=Lib.hid hrow0
 have HB0:=Lib.hid hbel0
 clear hrow0 hbel0 hown0 hgrow0
 go_loopw [15] (fun i wr=>∃k:Nat,k≤n∧i = .int .i64 k∧Hid (wr.ownsRow w.heap.size 5 1 (.slice (some ⟨w.heap.size,0,none⟩) n n) n ((padT (l.take k) n).map (.int .u8)))∧Hid (Below w.heap.size w wr)) (fun i _=>n-(intOf i).toNat)
 case atStart=>exact⟨0,Nat.zero_le _,rfl,HR0,HB0⟩
 case round =>
  obtain⟨k,hk,rfl,ho,hbel⟩:=hrel
  by_cases hlt:k<n
  ·have hkl:k<l.length:=by rw[hn.out];exact hlt
   have htl:(l.take k).length=k:=by rw[List.length_take];omega
   have hc:=ho.out.cellAt k (by omega)
   have hpa:=padT_at (l.take k) n .u8 (by omega)
   rw[htl]at hpa
   rw[hpa]at hc
   have hf:=ho.out.frozenAt k
   obtain⟨b,off,rfl,hck⟩:=(HI.out.below hbel.out) k hkl
   obtain⟨x,hx⟩:∃x,l.getD k 0=x:=⟨_,rfl⟩
   obtain⟨hx0,hx1⟩:=ascQ_at ha.out hkl
   rw[hx]at hck hx0 hx1
   have hw:IntKind.u8.wrap x=x:=by rw[IntKind.wrap_u8];omega
   have hsn:l.take (k+1)=l.take k++[x]:=by rw[take_snoc_int l k hkl,hx]
   have hst:=ho.out.stored k (.int .u8 x)
   have hps:=padT_set (l.take k) n x (by omega)
   rw[htl,←hsn]at hps
   rw[←List.map_set,hps]at hst
   have HA2:=Lib.hid hst.1
   have HB2:=Lib.hid (hbel.out.setCell (p:=⟨w.heap.size,k,none⟩) (Nat.le_refl _) (.int .u8 x))
   clear hst ho hpa htl hsn hps hbel hx hkl
   go_wp2
   go_roundw
   case rel=>exact⟨k+1,by omega,by go_num,HA2,HB2⟩
   case measure=>simp[intOf];omega
  ·obtain rfl:k=n:=by omega
   have h1:=ho.out
   rw[List.take_of_length_le (by rw[hn.out];exact Nat.le_refl _),padT_full _ _ (by rw[hn.out];exact Nat.le_refl _)]at h1
   have hcv:=conv_own h1
   rw[hS.out]at hcv
   clear h1 ho
   go_wp2
   go_ret2
   exact⟨rfl,hbel.out⟩
end Go.Proofs.YtblcoicaeeiojaaGreatDoor
