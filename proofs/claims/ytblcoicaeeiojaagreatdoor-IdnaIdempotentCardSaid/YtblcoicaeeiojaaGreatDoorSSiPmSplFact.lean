/- hangul: plain mathematics: kinds, parts, decompositions, com -/
import Derived.Test.YtblcoicaeeiojaaGreatDoorSSiPmOwn
import Derived.Test.YtblcoicaeeiojaaGreatDoorSSiPmPunSpec3
import Derived.Laws.BytesArg
import Derived.WalkKit
import Derived.Test.YtblcoicaeeiojaaGreatDoorSSiPmSplSpec
set_option linter.unusedSimpArgs false
set_option linter.unusedVariables false
namespace Go.Proofs.YtblcoicaeeiojaaGreatDoor
open Go.RowKit
def kindS (c:Int):Int :=
 if 4352≤c∧c≤4370 then 1 else if 4449≤c∧c≤4469 then 2 else if 4520≤c∧c≤4546 then 3
 else if c<44032∨55203<c then 0 else if(c-44032)%28=0 then 4 else 5
def partsS (c:Int):Int × Int × Int × Bool :=
 if 44032≤c∧c≤55203 then((c-44032) / 28 / 21,(c-44032) / 28%21,(c-44032)%28,true) else(0,0,0,false)
def decS (c:Int):List Int :=
 if 44032≤c∧c≤55203 then
  (if(c-44032)%28=0 then [4352+(c-44032) / 28 / 21,4449+(c-44032) / 28%21]
   else [4352+(c-44032) / 28 / 21,4449+(c-44032) / 28%21,4519+(c-44032)%28])
 else []
def compS (a b:Int):Int × Bool :=
 if kindS a=1∧kindS b=2 then(44032+(21*(a-4352)+b-4449)*28,true)
 else if kindS a=4∧kindS b=3 then(a+b-4519,true) else(0,false)
def flatS (c:Int):List Int:=if decS c=[]then [c]else decS c
theorem kindS_1 {c:Int}:kindS c=1↔4352≤c∧c≤4370:=by
 unfold kindS;constructor
 ·intro h;by_cases h1:4352≤c∧c≤4370
  ·exact h1
  ·rw[if_neg h1]at h;split at h<;>first|omega|(split at h<;>first|omega|(split at h<;>first|omega|(split at h<;>omega)))
 ·intro h;rw[if_pos h]
theorem kindS_2 {c:Int}:kindS c=2↔4449≤c∧c≤4469:=by
 unfold kindS;constructor
 ·intro h;by_cases h1:4449≤c∧c≤4469
  ·exact h1
  ·rw[if_neg h1]at h;split at h<;>first|omega|(split at h<;>first|omega|(split at h<;>first|omega|(split at h<;>omega)))
 ·intro h;rw[if_neg (by omega),if_pos h]
theorem kindS_3 {c:Int}:kindS c=3↔4520≤c∧c≤4546:=by
 unfold kindS;constructor
 ·intro h;by_cases h1:4520≤c∧c≤4546
  ·exact h1
  ·rw[if_neg h1]at h;split at h<;>first|omega|(split at h<;>first|omega|(split at h<;>first|omega|(split at h<;>omega)))
 ·intro h;rw[if_neg (by omega),if_neg (by omega),if_pos h]
theorem kindS_4 {c:Int}:kindS c=4↔44032≤c∧c≤55203∧(c-44032)%28=0:=by
 unfold kindS;constructor
 ·intro h;split at h<;>first|omega|(split at h<;>first|omega|(split at h<;>first|omega|(split at h<;>first|omega|(split at h<;>omega))))
 ·intro h;rw[if_neg (by omega),if_neg (by omega),if_neg (by omega),if_neg (by omega),if_pos h.2.2]
theorem kindS_5 {c:Int}:kindS c=5↔44032≤c∧c≤55203∧(c-44032)%28≠0:=by
 unfold kindS;constructor
 ·intro h;split at h<;>first|omega|(split at h<;>first|omega|(split at h<;>first|omega|(split at h<;>first|omega|(split at h<;>omega))))
 ·intro h;rw[if_neg (by omega),if_neg (by omega),if_neg (by omega),if_neg (by omega),if_neg h.2.2]
theorem kindS_0 {c:Int} (h1:¬(4352≤c∧c≤4370)) (h2:¬(4449≤c∧c≤4469)) (h3:¬(4520≤c∧c≤4546)) (h:c<44032∨55203<c):kindS c=0:=by
 unfold kindS;rw[if_neg h1,if_neg h2,if_neg h3,if_pos h]
theorem partsS_cases {c i j k : Int} {b : Bool} (h : partsS c = (i, j, k, b)) :
  (b=false∧i=0∧j=0∧k=0∧(c<44032∨55203<c))∨
  (b=true∧0≤i∧i<19∧0≤j∧j<21∧0≤k∧k<28∧c=44032+(21*i+j)*28+k):=by
 unfold partsS at h
 split at h
 ·rename_i hc
  simp only[Prod.mk.injEq]at h
  obtain⟨rfl,rfl,rfl,rfl⟩:=h
  right;refine⟨rfl,?_⟩;omega
 ·simp only[Prod.mk.injEq]at h
  obtain⟨rfl,rfl,rfl,rfl⟩:=h
  left;exact⟨rfl,rfl,rfl,rfl,by omega⟩
theorem decS_of {c i j k : Int} {b : Bool} (h : partsS c = (i, j, k, b)) :
  decS c=(bif b then(if k=0 then [4352+i,4449+j]else [4352+i,4449+j,4519+k])else []):=by
 unfold partsS at h
 unfold decS
 split at h
 ·rename_i hc
  rw[if_pos hc]
  simp only[Prod.mk.injEq]at h
  obtain⟨rfl,rfl,rfl,rfl⟩:=h
  rfl
 ·rename_i hc
  rw[if_neg hc]
  simp only[Prod.mk.injEq]at h
  obtain⟨rfl,rfl,rfl,rfl⟩:=h
  rfl
theorem compS_12 {a b:Int} (h1:kindS a=1) (h2:kindS b=2):compS a b=(44032+(21*(a-4352)+b-4449)*28,true):=by
 unfold compS;rw[if_pos ⟨h1,h2⟩]
theorem compS_43 {a b:Int} (h1:kindS a=4) (h2:kindS b=3):compS a b=(a+b-4519,true):=by
 unfold compS;rw[if_neg (by rw[h1,h2];decide),if_pos ⟨h1,h2⟩]
theorem compS_no {a b:Int} (h1:¬(kindS a=1∧kindS b=2)) (h2:¬(kindS a=4∧kindS b=3)):compS a b=(0,false):=by
 unfold compS;rw[if_neg h1,if_neg h2]
theorem compS_cases {a b x : Int} {o : Bool} (h : compS a b = (x, o)) :
  (o=true∧kindS a=1∧kindS b=2∧x=44032+(21*(a-4352)+b-4449)*28)∨
  (o=true∧kindS a=4∧kindS b=3∧x=a+b-4519)∨(o=false∧x=0):=by
 unfold compS at h
 split at h
 ·rename_i hc;simp only[Prod.mk.injEq]at h;exact .inl ⟨h.2.symm,hc.1,hc.2,h.1.symm⟩
 ·split at h
  ·rename_i hc;simp only[Prod.mk.injEq]at h;exact .inr (.inl ⟨h.2.symm,hc.1,hc.2,h.1.symm⟩)
  ·simp only[Prod.mk.injEq]at h;exact .inr (.inr ⟨h.2.symm,h.1.symm⟩)
theorem comp_lv {a b x : Int} (h1 : kindS a = 1) (h2 : kindS b = 2) (hx : x = 44032 + (21 * (a - 4352) + b - 4449) * 28) :
  kindS x=4∧decS x=flatS a++[b]:=by
 rw[kindS_1]at h1
 rw[kindS_2]at h2
 refine⟨kindS_4.2 (by omega),?_⟩
 have ha:decS a=[]:=by unfold decS;rw[if_neg (by omega)]
 unfold flatS
 rw[if_pos ha]
 unfold decS
 rw[if_pos (by omega),if_pos (by omega)]
 simp only[List.cons_append,List.nil_append,List.cons.injEq,and_true]
 omega
theorem comp_lvt {a b x : Int} (h1 : kindS a = 4) (h2 : kindS b = 3) (hx : x = a + b - 4519) :
  kindS x=5∧decS x=flatS a++[b]:=by
 rw[kindS_4]at h1
 rw[kindS_3]at h2
 refine⟨kindS_5.2 (by omega),?_⟩
 have ha:decS a=[4352+(a-44032) / 28 / 21,4449+(a-44032) / 28%21]:=by unfold decS;rw[if_pos (by omega),if_pos h1.2.2]
 unfold flatS
 rw[if_neg (by rw[ha];simp),ha]
 unfold decS
 rw[if_pos (by omega),if_neg (by omega)]
 simp only[List.cons_append,List.nil_append,List.cons.injEq,and_true]
 omega
theorem sOfN (s:ByteArray):strOfNums (nums s)=s:=by
 apply ByteArray.ext
 apply Array.ext'
 have e:((fun n:Int=>UInt8.ofNat n.toNat) ∘ fun b:UInt8=>(b.toNat:Int))=id:=by funext b;simp
 simp[strOfNums,nums,e]
theorem size_posN (S:ByteArray) (h:¬S.size=0):(S.toList==[])=false:=by
 rw[ByteArray.toList_eq]
 cases hd:S.data.toList with
 | nil=>exact absurd (by rw[show S.size=S.data.toList.length from rfl,hd];rfl) h
 | cons c r=>rfl
theorem size_zeroN (S:ByteArray) (h:S.size=0):(S.toList==[])=true:=by
 rw[ByteArray.toList_eq]
 have:S.data.toList=[]:=List.eq_nil_of_length_eq_zero h
 rw[this];rfl
theorem nums_getN2 (s:ByteArray) (j:Nat) (h:j<s.size):(nums s).getD j 0=(s[j].toNat:Int):=by
 have hl:j<(nums s).length:=by rw[nums_length];exact h
 rw[List.getD_eq_getElem?_getD,List.getElem?_eq_getElem hl]
 simp[nums]
 rfl
theorem nums_oneN (s:ByteArray) (k:Nat) (h:k<s.size):nums (s.extract k (k+1))=[(s[k].toNat:Int)]:=by
 have hl:(nums (s.extract k (k+1))).length=1:=by rw[nums_length,ByteArray.size_extract];omega
 obtain⟨a,ha⟩:=List.length_eq_one_iff.1 hl
 rw[ha]
 have h2:(nums (s.extract k (k+1))).getD 0 0=a:=by rw[ha];rfl
 rw[nums_getN2 _ 0 (by rw[ByteArray.size_extract];omega)]at h2
 rw[←h2]
 congr 2
 simp[ByteArray.getElem_extract]
theorem ints_lit_at (w:World) (C:Array Value) (xs:List Int) (t:TypeId) (h:C.toList=xs.map (.int .i64)):IntsIn (w.alloc (.cells C t)) (some ⟨w.heap.size,0,none⟩) xs:=by
 intro k hk
 refine⟨_,_,rfl,?_⟩
 rw[Nat.zero_add,World.cell?_alloc_new,←Array.getElem?_toList,h]
 simp[hk]
def GivesH (L:List Int) (w:World) (e:Ending) (w':World):Prop :=
 ∃p cap,e = .returned (.slice p L.length cap)∧IntsIn w' p L∧Below w.heap.size w w'
set_option maxHeartbeats 400000 in
theorem within_at (c f n : Int) (B : Bool) (w : World) (h0 : 0 ≤ f) (h1 : f ≤ 100000) (n0 : 0 ≤ n) (n1 : n ≤ 100000) (hB : Hid (decide (f ≤ c ∧ c < f + n) = B)) :
  Calls Tryz.prog 284 #[.int .i64 c,.int .i64 f,.int .i64 n] w fun e w'=>e = .returned (.bool B)∧w=w':=by
 by_cases g1:f≤c
 ·by_cases g2:c<f+n
  ·have e:B=true:=by rw[←hB.out];exact decide_eq_true ⟨g1,g2⟩
   subst e
   clear hB
   go_enter Tryz.func284,Tryz.ntmps284
   go_wp2
   go_ret
   exact⟨rfl,rfl⟩
  ·have e:B=false:=by rw[←hB.out];exact decide_eq_false (fun h=>g2 h.2)
   subst e
   have d2:decide (c<f+n)=false:=decide_eq_false g2
   clear hB
   go_enter Tryz.func284,Tryz.ntmps284
   go_wp2
   go_ret
   exact⟨rfl,rfl⟩
 ·have e:B=false:=by rw[←hB.out];exact decide_eq_false (fun h=>g1 h.1)
  subst e
  have d2:decide (f≤c)=false:=decide_eq_false g1
  clear hB
  go_enter Tryz.func284,Tryz.ntmps284
  go_wp2
  go_ret
  exact⟨rfl,rfl⟩
theorem results_tmp4 {fn : Func} {t u v x : Tmp} (h : fn.results = #[.tmp t, .tmp u, .tmp v, .tmp x]) (tmps : Array Value) (P : Program) (w : World) :
  (results fn tmps).run P w = .ok (.tuple #[tmps.getD t undef,tmps.getD u undef,tmps.getD v undef,tmps.getD x undef]) w:=by
 simp[results,h]
theorem tdiv_pos (a b:Int) (h:0≤a):a.tdiv b=a / b:=Int.tdiv_eq_ediv_of_nonneg h
theorem tmod_pos (a b:Int) (h:0≤a):a.tmod b=a%b:=Int.tmod_eq_emod_of_nonneg h
set_option maxHeartbeats 1000000 in
theorem parts_at (c i j k : Int) (b : Bool) (w : World) (h : Hid (partsS c = (i, j, k, b))) :
  Calls Tryz.prog 283 #[.int .i64 c] w fun e w'=>e = .returned (.tuple #[.int .i64 i,.int .i64 j,.int .i64 k,.bool b])∧w=w':=by
 rcases partsS_cases h.out with⟨rfl,rfl,rfl,rfl,hc⟩|⟨rfl,hi0,hi1,hj0,hj1,hk0,hk1,hc⟩
 ·have HB:Hid (decide (44032≤c∧c<44032+11172)=false):=decide_eq_false (by omega)
  clear h hc
  go_enter Tryz.func283,Tryz.ntmps283
  go_wp2_with fail
  refine(within_at c 44032 11172 false _ (by omega) (by omega) (by omega) (by omega) HB).mono ?_
  rintro e w' ⟨rfl,rfl⟩
  go_wp2
  try simp only[Exit.inBlock,Exit.then]
  refine bodyPost_ret (results_tmp4 rfl _ _ _) rfl ?_
  exact⟨rfl,rfl⟩
 ·have HB:Hid (decide (44032≤c∧c<44032+11172)=true):=decide_eq_true (by omega)
  obtain⟨x,hx⟩:∃x,c-44032=x:=⟨_,rfl⟩
  obtain⟨y,hy⟩:∃y,x / 28=y:=⟨_,rfl⟩
  have x0:0≤x:=by omega
  have x1:x<11172:=by omega
  have y0:0≤y:=by omega
  have y1:y<399:=by omega
  have e1:x.tdiv 28=y:=by rw[tdiv_pos _ _ x0];omega
  have e2:x.tmod 28=k:=by rw[tmod_pos _ _ x0];omega
  have e3:y.tdiv 21=i:=by rw[tdiv_pos _ _ y0];omega
  have e4:y.tmod 21=j:=by rw[tmod_pos _ _ y0];omega
  have e5:x / 28=y:=hy
  have e6:x%28=k:=by omega
  have e7:y / 21=i:=by omega
  have e8:y%21=j:=by omega
  clear h hc hy
  go_enter Tryz.func283,Tryz.ntmps283
  go_wp2_with fail
  refine(within_at c 44032 11172 true _ (by omega) (by omega) (by omega) (by omega) HB).mono ?_
  rintro e w' ⟨rfl,rfl⟩
  go_wp2
  try simp only[Exit.inBlock,Exit.then]
  refine bodyPost_ret (results_tmp4 rfl _ _ _) rfl ?_
  exact⟨rfl,rfl⟩
set_option maxHeartbeats 1000000 in
theorem kind_any (c : Int) (w : World) :
  Calls Tryz.prog 270 #[.int .i64 c] w fun e w'=>e = .returned (.int .i64 (kindS c))∧w=w':=by
 obtain⟨B1,h1⟩:∃B,decide (4352≤c∧c<4352+19)=B:=⟨_,rfl⟩
 obtain⟨B2,h2⟩:∃B,decide (4449≤c∧c<4449+21)=B:=⟨_,rfl⟩
 obtain⟨B3,h3⟩:∃B,decide (4520≤c∧c<4520+27)=B:=⟨_,rfl⟩
 obtain⟨i,j,k,b,hp⟩:∃i j k b,partsS c=(i,j,k,b):=⟨_,_,_,_,rfl⟩
 obtain⟨Z,hz⟩:∃Z,(k==0)=Z:=⟨_,rfl⟩
 have HK:Hid (kindS c=(bif B1 then 1 else bif B2 then 2 else bif B3 then 3 else bif b then(bif Z then 4 else 5)else 0)):=by
  unfold Hid
  subst h1 h2 h3 hz
  by_cases g1:4352≤c∧c<4352+19
  ·rw[decide_eq_true g1,kindS_1.2 (by omega)];rfl
  ·by_cases g2:4449≤c∧c<4449+21
   ·rw[decide_eq_false g1,decide_eq_true g2,kindS_2.2 (by omega)];rfl
   ·by_cases g3:4520≤c∧c<4520+27
    ·rw[decide_eq_false g1,decide_eq_false g2,decide_eq_true g3,kindS_3.2 (by omega)];rfl
    ·rw[decide_eq_false g1,decide_eq_false g2,decide_eq_false g3]
     rcases partsS_cases hp with⟨rfl,rfl,rfl,rfl,hc⟩|⟨rfl,hi0,hi1,hj0,hj1,hk0,hk1,hc⟩
     ·rw[kindS_0 (by omega) (by omega) (by omega) hc];rfl
     ·by_cases hk:k=0
      ·rw[kindS_4.2 (by omega)];subst hk;rfl
      ·rw[kindS_5.2 (by omega),show (k==0)=false by simp[hk]];rfl
 have H1:=Lib.hid h1
 have H2:=Lib.hid h2
 have H3:=Lib.hid h3
 have HP:=Lib.hid hp
 clear h1 h2 h3 hp
 go_enter Tryz.func270,Tryz.ntmps270
 go_wp2_with fail
 refine(within_at c 4352 19 B1 _ (by omega) (by omega) (by omega) (by omega) H1).mono ?_
 rintro e w' ⟨rfl,rfl⟩
 cases B1
 case true=>go_wp2;go_ret;rw[HK.out];exact⟨rfl,rfl⟩
 go_wp2_with fail
 refine(within_at c 4449 21 B2 _ (by omega) (by omega) (by omega) (by omega) H2).mono ?_
 rintro e w' ⟨rfl,rfl⟩
 cases B2
 case true=>go_wp2;go_ret;rw[HK.out];exact⟨rfl,rfl⟩
 go_wp2_with fail
 refine(within_at c 4520 27 B3 _ (by omega) (by omega) (by omega) (by omega) H3).mono ?_
 rintro e w' ⟨rfl,rfl⟩
 cases B3
 case true=>go_wp2;go_ret;rw[HK.out];exact⟨rfl,rfl⟩
 go_wp2_with fail
 refine(parts_at c i j k b _ HP).mono ?_
 rintro e w' ⟨rfl,rfl⟩
 cases b
 ·go_wp2;go_ret;rw[HK.out];exact⟨rfl,rfl⟩
 ·cases Z
  ·go_wp2;go_ret;rw[HK.out];exact⟨rfl,rfl⟩
  ·go_wp2;go_ret;rw[HK.out];exact⟨rfl,rfl⟩
theorem kind_at (c k : Int) (w : World) (h : Hid (kindS c = k)) :
  Calls Tryz.prog 270 #[.int .i64 c] w fun e w'=>e = .returned (.int .i64 k)∧w=w':=h.out▸kind_any c w
set_option maxHeartbeats 1000000 in
theorem hdec_at (c : Int) (L : List Int) (w : World) (h : Hid (decS c = L)) :
  Calls Tryz.prog 265 #[.int .i64 c] w (GivesH L w):=by
 obtain⟨i,j,k,b,hp⟩:∃i j k b,partsS c=(i,j,k,b):=⟨_,_,_,_,rfl⟩
 have hd:=decS_of hp
 rw[h.out]at hd
 have HP:=Lib.hid hp
 clear h
 rcases partsS_cases hp with⟨rfl,rfl,rfl,rfl,hc⟩|⟨rfl,hi0,hi1,hj0,hj1,hk0,hk1,hc⟩
 ·have e:L=[]:=hd
  subst e
  clear hp hd hc
  go_enter Tryz.func265,Tryz.ntmps265
  go_wp2_with fail
  refine(parts_at c 0 0 0 false _ HP).mono ?_
  rintro e w' ⟨rfl,rfl⟩
  go_wp2
  go_ret
  exact⟨none,0,rfl,fun k hk=>by simp at hk,Below.refl _ _⟩
 ·by_cases hk:k=0
  ·subst hk
   have e:L=[4352+i,4449+j]:=hd
   subst e
   clear hp hd hc
   go_enter Tryz.func265,Tryz.ntmps265
   go_wp2_with fail
   refine(parts_at c i j 0 true _ HP).mono ?_
   rintro e w' ⟨rfl,rfl⟩
   go_wp2
   go_ret
   exact⟨_,_,rfl,ints_lit_at _ _ [4352+i,4449+j] _ rfl,(Below.refl _ _).alloc (Nat.le_refl _) _⟩
  ·have e:L=[4352+i,4449+j,4519+k]:=by rw[hd];simp[hk]
   subst e
   have hz:(k==0)=false:=by simp[hk]
   clear hp hd hc
   go_enter Tryz.func265,Tryz.ntmps265
   go_wp2_with fail
   refine(parts_at c i j k true _ HP).mono ?_
   rintro e w' ⟨rfl,rfl⟩
   go_wp2
   go_ret
   exact⟨_,_,rfl,ints_lit_at _ _ [4352+i,4449+j,4519+k] _ rfl,(Below.refl _ _).alloc (Nat.le_refl _) _⟩
set_option maxHeartbeats 1000000 in
theorem hcomp_at (a b x : Int) (o : Bool) (w : World) (h : Hid (compS a b = (x, o))) :
  Calls Tryz.prog 228 #[.int .i64 a,.int .i64 b] w fun e w'=>e = .returned (.tuple #[.int .i64 x,.bool o])∧w=w':=by
 obtain⟨k1,h1⟩:∃k,Hid (kindS a=k):=⟨_,rfl⟩
 obtain⟨k2,h2⟩:∃k,Hid (kindS b=k):=⟨_,rfl⟩
 by_cases g1:k1=1
 ·subst g1
  by_cases g2:k2=2
  ·subst g2
   have hx:=h.out
   rw[compS_12 h1.out h2.out]at hx
   simp only[Prod.mk.injEq]at hx
   obtain⟨hx,rfl⟩:=hx
   have a1:=kindS_1.1 h1.out
   have b1:=kindS_2.1 h2.out
   obtain⟨a0,a1⟩:=a1
   obtain⟨b0,b1⟩:=b1
   clear h
   go_enter Tryz.func228,Tryz.ntmps228
   go_wp2_with fail
   refine(kind_at a 1 _ h1).mono ?_
   rintro e w' ⟨rfl,rfl⟩
   go_wp2_with fail
   refine(kind_at b 2 _ h2).mono ?_
   rintro e w' ⟨rfl,rfl⟩
   go_wp2
   go_ret2
   exact⟨rfl,rfl⟩
  ·have hx:=h.out
   rw[compS_no (by rw[h2.out];exact fun h=>g2 h.2) (by rw[h1.out];exact fun h=>absurd h.1 (by decide))]at hx
   simp only[Prod.mk.injEq]at hx
   obtain⟨rfl,rfl⟩:=hx
   have z2:(k2==2)=false:=by simp[g2]
   clear h
   go_enter Tryz.func228,Tryz.ntmps228
   go_wp2_with fail
   refine(kind_at a 1 _ h1).mono ?_
   rintro e w' ⟨rfl,rfl⟩
   go_wp2_with fail
   refine(kind_at b k2 _ h2).mono ?_
   rintro e w' ⟨rfl,rfl⟩
   go_wp2
   go_ret2
   exact⟨rfl,rfl⟩
 ·by_cases g4:k1=4
  ·subst g4
   by_cases g3:k2=3
   ·subst g3
    have hx:=h.out
    rw[compS_43 h1.out h2.out]at hx
    simp only[Prod.mk.injEq]at hx
    obtain⟨hx,rfl⟩:=hx
    have a1:=kindS_4.1 h1.out
    have b1:=kindS_3.1 h2.out
    obtain⟨a0,a1,_⟩:=a1
    obtain⟨b0,b1⟩:=b1
    clear h
    go_enter Tryz.func228,Tryz.ntmps228
    go_wp2_with fail
    refine(kind_at a 4 _ h1).mono ?_
    rintro e w' ⟨rfl,rfl⟩
    go_wp2_with fail
    refine(kind_at b 3 _ h2).mono ?_
    rintro e w' ⟨rfl,rfl⟩
    go_wp2
    go_ret2
    exact⟨rfl,rfl⟩
   ·have hx:=h.out
    rw[compS_no (by rw[h1.out];exact fun h=>absurd h.1 (by decide)) (by rw[h2.out];exact fun h=>g3 h.2)]at hx
    simp only[Prod.mk.injEq]at hx
    obtain⟨rfl,rfl⟩:=hx
    have z2:(k2==3)=false:=by simp[g3]
    clear h
    go_enter Tryz.func228,Tryz.ntmps228
    go_wp2_with fail
    refine(kind_at a 4 _ h1).mono ?_
    rintro e w' ⟨rfl,rfl⟩
    go_wp2_with fail
    refine(kind_at b k2 _ h2).mono ?_
    rintro e w' ⟨rfl,rfl⟩
    go_wp2
    go_ret2
    exact⟨rfl,rfl⟩
  ·have hx:=h.out
   rw[compS_no (by rw[h1.out];exact fun h=>g1 h.1) (by rw[h1.out];exact fun h=>g4 h.1)]at hx
   simp only[Prod.mk.injEq]at hx
   obtain⟨rfl,rfl⟩:=hx
   have z1:(k1==1)=false:=by simp[g1]
   have z2:(k1==4)=false:=by simp[g4]
   clear h
   go_enter Tryz.func228,Tryz.ntmps228
   go_wp2_with fail
   refine(kind_at a k1 _ h1).mono ?_
   rintro e w' ⟨rfl,rfl⟩
   go_wp2_with fail
   refine(kind_at b k2 _ h2).mono ?_
   rintro e w' ⟨rfl,rfl⟩
   go_wp2
   go_ret2
   exact⟨rfl,rfl⟩
theorem sstr_append (a b:List Int):strOfNums (a++b)=strOfNums a++strOfNums b:=by
 apply ByteArray.ext
 apply Array.ext'
 simp[strOfNums]
theorem joinD_snoc:∀(l:List (List Int)) (x:List Int),joinD (l++[x])=if l=[]then x else joinD l++46::x
 | [],x=>rfl
 | [y],x=>by simp[joinD]
 | y::z::t,x=>by
  have ih:=joinD_snoc (z::t) x
  rw[List.cons_append,joinD_cons y (by simp),ih,if_neg (by simp),if_neg (by simp),joinD_cons y (by simp)]
  simp
def strsD (s:ByteArray):List ByteArray:=(cutD (nums s)).map strOfNums
def nameB (L:List ByteArray):ByteArray:=strOfNums (joinD (L.map nums))
def nameE (L:List ByteArray):ByteArray × Int:=if(chkD (L.map ByteArray.size)).2≠0 then(ByteArray.empty,(chkD (L.map ByteArray.size)).2) else(nameB L,0)
theorem nameB_nil:nameB []=ByteArray.empty:=rfl
theorem nameB_snoc (l:List ByteArray) (x:ByteArray):nameB (l++[x])=if l=[]then x else(nameB l++ByteArray.mk #[46])++x:=by
 unfold nameB
 rw[List.map_append,List.map_singleton,joinD_snoc]
 cases l with
 | nil=>simp[sOfN]
 | cons y t =>
  rw[if_neg (by simp),if_neg (by simp),sstr_append,show (46::nums x)=[46]++nums x from rfl,sstr_append,sOfN,ByteArray.append_assoc]
  rfl
theorem nameB_size (L:List ByteArray):(nameB L).size=(L.map ByteArray.size).sum+(L.length-1):=by
 unfold nameB
 rw[strOfNums_size,join_len,List.map_map,List.length_map]
 congr 2
 exact List.map_congr_left (fun x _=>nums_length x)
theorem take_snocB (L:List ByteArray) (k:Nat) (h:k<L.length):L.take (k+1)=L.take k++[L.getD k ByteArray.empty]:=by
 rw[List.take_succ_eq_append_getElem h];simp[h]
theorem take_snocL (L:List (List Int)) (k:Nat) (h:k<L.length):L.take (k+1)=L.take k++[L.getD k []]:=by
 rw[List.take_succ_eq_append_getElem h];simp[h]
theorem cut_dot {D:List (List Int)} {cur l:List Int} {k:Nat} (hk:k<l.length) (h:l.getD k 0=46):cutG D cur (l.drop k)=cutG (D++[cur]) [] (l.drop (k+1)):=by
 rw[List.drop_eq_getElem_cons hk]
 have:l[k]=46:=by rw[←h];simp[hk]
 rw[this,cutG_dot]
theorem cut_no {D:List (List Int)} {cur l:List Int} {k:Nat} {c:Int} (hk:k<l.length) (h:l.getD k 0=c) (hc:c≠46):cutG D cur (l.drop k)=cutG D (cur++[c]) (l.drop (k+1)):=by
 rw[List.drop_eq_getElem_cons hk]
 have:l[k]=c:=by rw[←h];simp[hk]
 rw[this,cutG_no _ _ _ hc]
theorem cut_end {D:List (List Int)} {cur l:List Int} {k:Nat} (hk:l.length≤k):cutG D cur (l.drop k)=D++[cur]:=by
 rw[List.drop_of_length_le hk];rfl
theorem cutG_tot (D:List (List Int)) (cur l:List Int):((cutG D cur l).map List.length).sum≤(D.map List.length).sum+cur.length+l.length:=by
 induction l generalizing D cur with
 | nil=>simp[cutG]
 | cons c r ih =>
  by_cases h:c=46
  ·subst h
   rw[cutG_dot]
   have:=ih (D++[cur]) []
   simp at this ⊢;omega
  ·rw[cutG_no _ _ _ h]
   have:=ih D (cur++[c])
   simp at this ⊢;omega
theorem sumL_mem {L:List (List Int)} {x:List Int} (h:x∈L):x.length≤(L.map List.length).sum:=by
 induction L with
 | nil=>cases h
 | cons y t ih =>
  rcases List.mem_cons.1 h with rfl|h
  ·simp
  ·have:=ih h;simp;omega
theorem cutD_lab (l:List Int):∀x∈cutD l,x.length≤l.length:=by
 intro x hx
 have h1:=sumL_mem hx
 have h2:=cutG_tot [] [] l
 unfold cutD at h1 hx
 simp at h2;omega
theorem cutD_num (l:List Int):(cutD l).length≤l.length+1:=by
 rw[cutD_len]
 have:=List.count_le_length (a:=(46:Int)) (l:=l)
 omega
end Go.Proofs.YtblcoicaeeiojaaGreatDoor
