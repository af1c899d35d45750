/- Full decompositions, plain mathematics: sizes are settled af -/
import Derived.Test.YtblcoicaeeiojaaGreatDoorSSiPmSplSpec
set_option linter.unusedSimpArgs false
set_option linter.unusedVariables false
namespace Go.Proofs.YtblcoicaeeiojaaGreatDoor
theorem sz_zero {l:List Mp} {c:Int} (k:Nat) (h:findM l c=[]):sz l k c=1:=by
 cases k<;>simp[sz,h]
theorem sz_succ {l:List Mp} {c:Int} (k:Nat) (h:findM l c≠[]):sz l (k+1) c=min 19 ((findM l c).map (sz l k)).sum:=by
 rw[sz,if_neg h]
theorem sum_mem {α:Type} (f:α→Nat) (l:List α) (x:α) (h:x∈l):f x≤(l.map f).sum:=by
 induction l with
 | nil=>cases h
 | cons y r ih =>
  rw[List.map_cons,List.sum_cons]
  rcases List.mem_cons.1 h with rfl|h
  ·omega
  ·have:=ih h;omega
theorem sum_length {α:Type} (f:α→Nat) (l:List α) (h:∀x∈l,1≤f x):l.length≤(l.map f).sum:=by
 induction l with
 | nil=>simp
 | cons y r ih =>
  have h1:=h y (by simp)
  have h2:=ih fun x hx=>h x (by simp[hx])
  simp only[List.map_cons,List.sum_cons,List.length_cons];omega
theorem sz_bd (l:List Mp) (k:Nat) (c:Int):1≤sz l k c∧sz l k c≤19:=by
 induction k generalizing c with
 | zero=>simp only[sz];split<;>omega
 | succ k ih =>
  by_cases h:findM l c=[]
  ·rw[sz_zero _ h];omega
  ·rw[sz_succ _ h]
   have h1:=sum_length (sz l k) (findM l c) fun x _=>(ih x).1
   have h2:1≤(findM l c).length:=by
    cases hc:findM l c with
    | nil=>exact absurd hc h
    | cons _ _=>simp
   omega
def Dp (l:List Mp):Nat→Int→Prop
 | 0,c=>findM l c=[]
 | k+1,c=>∀x∈findM l c,Dp l k x
theorem Dp.nil {l:List Mp} {c:Int} (k:Nat) (h:findM l c=[]):Dp l k c:=by
 cases k with
 | zero=>exact h
 | succ k=>intro x hx;rw[h]at hx;cases hx
theorem Dp.succ {l:List Mp} {k:Nat} {c:Int} (h:Dp l k c):Dp l (k+1) c:=by
 induction k generalizing c with
 | zero=>exact Dp.nil _ h
 | succ k ih=>intro x hx;exact ih (h x hx)
theorem Dp.le {l:List Mp} {k j:Nat} {c:Int} (h:Dp l k c) (hj:k≤j):Dp l j c:=by
 obtain⟨d,rfl⟩:∃d,j=k+d:=⟨j-k,by omega⟩
 clear hj
 induction d with
 | zero=>exact h
 | succ d ih=>exact ih.succ
theorem sz_dp {l:List Mp} {k:Nat} {c:Int} (h:Dp l k c):sz l (k+1) c=sz l k c:=by
 induction k generalizing c with
 | zero=>rw[sz_zero _ h,sz_zero _ h]
 | succ k ih =>
  by_cases hc:findM l c=[]
  ·rw[sz_zero _ hc,sz_zero _ hc]
  ·rw[sz_succ _ hc,sz_succ _ hc]
   congr 2
   exact List.map_congr_left fun x hx=>ih (h x hx)
inductive Rch (l:List Mp):Int→Int→Prop
 | one {c d:Int}:d∈findM l c→Rch l c d
 | more {c d e:Int}:d∈findM l c→Rch l d e→Rch l c e
theorem Rch.snoc {l:List Mp} {c d e:Int} (h:Rch l c d) (k:e∈findM l d):Rch l c e:=by
 induction h with
 | one h=>exact .more h (.one k)
 | more h _ ih=>exact .more h (ih k)
theorem Rch.first {l:List Mp} {c:Int} (h:Rch l c c):∃d∈findM l c,Rch l d d:=by
 cases h with
 | one h=>exact⟨c,h,.one h⟩
 | more h k=>exact⟨_,h,k.snoc h⟩
theorem ne_nil_of_mem' {α:Type} {l:List α} {x:α} (h:x∈l):l≠[]:=by
 rintro rfl;cases h
theorem sz_part {l:List Mp} {k:Nat} {c d:Int} (h:d∈findM l c) (hd:sz l k d=19):sz l (k+1) c=19:=by
 rw[sz_succ _ (ne_nil_of_mem' h)]
 have:=sum_mem (sz l k) _ d h
 omega
theorem sz_ring {l:List Mp} (k:Nat) {c:Int} (h:Rch l c c):sz l k c=19:=by
 induction k generalizing c with
 | zero =>
  obtain⟨d,hd,_⟩:=h.first
  rw[sz,if_neg (ne_nil_of_mem' hd)]
 | succ k ih =>
  obtain⟨d,hd,hr⟩:=h.first
  exact sz_part hd (ih hr)
theorem sz_to_ring {l:List Mp} {c d:Int} (h:Rch l c d) (hd:Rch l d d) (k:Nat):sz l k c=19:=by
 induction h generalizing k with
 | one h =>
  cases k with
  | zero=>rw[sz,if_neg (ne_nil_of_mem' h)]
  | succ k=>exact sz_part h (sz_ring k hd)
 | more h _ ih =>
  cases k with
  | zero=>rw[sz,if_neg (ne_nil_of_mem' h)]
  | succ k=>exact sz_part h (ih hd k)
def chainP (l:List Mp):Int→List Int→Prop
 | _,[]=>True
 | c,d::r=>d∈findM l c∧chainP l d r
theorem chain_of_not_dp {l:List Mp} (k:Nat) (c:Int) (h:¬Dp l k c):∃r,r.length=k∧chainP l c r∧∀x∈c::r,findM l x≠[]:=by
 induction k generalizing c with
 | zero=>exact⟨[],rfl,trivial,by intro x hx;rw[List.mem_singleton]at hx;subst hx;exact h⟩
 | succ k ih =>
  obtain⟨x,hx⟩:=Classical.not_forall.1 h
  obtain⟨hx,hd⟩:=Classical.not_imp.1 hx
  obtain⟨r,h1,h2,h3⟩:=ih x hd
  refine⟨x::r,by simp[h1],⟨hx,h2⟩,?_⟩
  intro y hy
  rcases List.mem_cons.1 hy with rfl|hy
  ·exact ne_nil_of_mem' hx
  ·exact h3 y hy
theorem rch_of_chain {l:List Mp} (c:Int) (r:List Int) (h:chainP l c r):∀x∈r,Rch l c x:=by
 induction r generalizing c with
 | nil=>intro x hx;cases hx
 | cons d r ih =>
  intro x hx
  rcases List.mem_cons.1 hx with rfl|hx
  ·exact .one h.1
  ·exact .more h.1 (ih d h.2 x hx)
theorem ring_of_chain {l:List Mp} (c:Int) (r:List Int) (h:chainP l c r) (hn:¬(c::r).Nodup):∃x,(x=c∨Rch l c x)∧Rch l x x:=by
 induction r generalizing c with
 | nil=>exact absurd (by simp) hn
 | cons d r ih =>
  by_cases hc:c∈d::r
  ·exact⟨c,.inl rfl,rch_of_chain c _ h c hc⟩
  ·have hd:¬(d::r).Nodup:=fun hd=>hn (List.nodup_cons.2 ⟨hc,hd⟩)
   obtain⟨x,hx,hr⟩:=ih d h.2 hd
   rcases hx with rfl|hx
   ·exact⟨x,.inr (.one h.1),hr⟩
   ·exact⟨x,.inr (.more h.1 hx),hr⟩
theorem pigeon (a m:List Int) (hn:a.Nodup) (h:∀x∈a,x∈m):a.length≤m.length:=by
 induction a generalizing m with
 | nil=>simp
 | cons x r ih =>
  rw[List.nodup_cons]at hn
  have hx:=h x (by simp)
  have:=ih (m.erase x) hn.2 fun y hy=>(List.mem_erase_of_ne (fun e=>hn.1 (by rw[←e];exact hy))).2 (h y (by simp[hy]))
  rw[List.length_erase_of_mem hx]at this
  have:=List.length_pos_of_mem hx
  simp only[List.length_cons];omega
theorem has_of_find {l:List Mp} {c:Int} (h:findM l c≠[]):c∈froms l:=by
 cases hb:hasM l c with
 | false=>exact absurd (findM_nil hb) h
 | true=>obtain⟨m,hm,rfl⟩:=hasM_iff.1 hb;exact List.mem_map_of_mem hm
theorem sz_deep {l:List Mp} {c:Int} (hl:l.length≤256) (h:¬Dp l 256 c) (k:Nat):sz l k c=19:=by
 obtain⟨r,h1,h2,h3⟩:=chain_of_not_dp 256 c h
 have hn:¬(c::r).Nodup:=by
  intro hn
  have:=pigeon (c::r) (froms l) hn fun x hx=>has_of_find (h3 x hx)
  simp only[List.length_cons,h1,froms,List.length_map]at this
  omega
 obtain⟨x,hx,hr⟩:=ring_of_chain c r h2 hn
 rcases hx with rfl|hx
 ·exact sz_ring k hr
 ·exact sz_to_ring hx hr k
def siz (l:List Mp) (c:Int):Nat:=sz l 256 c
theorem siz_bd (l:List Mp) (c:Int):1≤siz l c∧siz l c≤19:=sz_bd l 256 c
theorem siz_nil {l:List Mp} {c:Int} (h:findM l c=[]):siz l c=1:=sz_zero _ h
theorem siz_eq {l:List Mp} {c:Int} (hl:l.length≤256) (h:findM l c≠[]):siz l c=min 19 ((findM l c).map (siz l)).sum:=by
 rw[show (siz l:Int→Nat)=sz l 256 from rfl,←sz_succ 256 h]
 by_cases hd:Dp l 256 c
 ·exact(sz_dp hd).symm
 ·exact(sz_deep hl hd _).trans (sz_deep hl hd _).symm
theorem siz_dp {l:List Mp} {c:Int} (hl:l.length≤256) (h:siz l c≤18):Dp l 256 c:=by
 apply Classical.byContradiction
 intro hd
 have:=sz_deep hl hd 256
 unfold siz at h;omega
theorem siz_ring {l:List Mp} {c:Int} (h:Rch l c c):siz l c=19:=sz_ring 256 h
def fulF (l:List Mp):Nat→Int→List Int
 | 0,c=>[c]
 | k+1,c=>if findM l c=[]then [c] else(findM l c).flatMap (fulF l k)
def ful (l:List Mp) (c:Int):List Int:=fulF l 256 c
theorem fulF_nil {l:List Mp} {c:Int} (k:Nat) (h:findM l c=[]):fulF l k c=[c]:=by
 cases k<;>simp[fulF,h]
theorem fulF_dp {l:List Mp} {k:Nat} {c:Int} (h:Dp l k c):fulF l (k+1) c=fulF l k c:=by
 induction k generalizing c with
 | zero=>rw[fulF_nil _ h,fulF_nil _ h]
 | succ k ih =>
  by_cases hc:findM l c=[]
  ·rw[fulF_nil _ hc,fulF_nil _ hc]
  ·rw[fulF,if_neg hc]
   conv=>rhs;rw[fulF,if_neg hc]
   rw[List.flatMap_def,List.flatMap_def]
   congr 1
   exact List.map_congr_left fun x hx=>ih (h x hx)
theorem ful_nil {l:List Mp} {c:Int} (h:findM l c=[]):ful l c=[c]:=fulF_nil _ h
theorem ful_eq {l:List Mp} {c:Int} (hd:Dp l 256 c) (h:findM l c≠[]):ful l c=(findM l c).flatMap (ful l):=by
 unfold ful
 rw[←fulF_dp hd,fulF,if_neg h]
def lastF (l:List Mp) (c:Int):Int:=(ful l c).getLastD 0
theorem lastF_nil {l:List Mp} {c:Int} (h:findM l c=[]):lastF l c=c:=by rw[lastF,ful_nil h];rfl
theorem lastF_two {l:List Mp} {c a b:Int} (hd:Dp l 256 c) (h:findM l c=[a,b]) (hb:findM l b=[]):lastF l c=b:=by
 rw[lastF,ful_eq hd (by rw[h];simp),h]
 simp only[List.flatMap_cons,List.flatMap_nil,List.append_nil,ful_nil hb]
 simp[List.getLastD_eq_getLast?]
def cmpF (T:Tb):Nat→Int→Bool
 | 0,_=>false
 | k+1,c=>match findM T.dec c with
  | [a,b] => !excT T c&&(decide (clsT T c=0)&&(decide (clsT T a=0)&&(!hasM T.dec b&&((!hasM T.dec a||cmpF T k a)&&(decide (clsT T b=0)||decide (clsT T (lastF T.dec a)≤clsT T b))))))
  | _=>false
def compT (T:Tb) (c:Int):Bool:=cmpF T 257 c
theorem cmpF_dp {T:Tb} {k:Nat} {c:Int} (h:Dp T.dec k c):cmpF T (k+2) c=cmpF T (k+1) c:=by
 induction k generalizing c with
 | zero =>
  have h0:findM T.dec c=[]:=h
  rw[cmpF,cmpF,h0]
 | succ k ih =>
  rw[cmpF]
  conv=>rhs;rw[cmpF]
  cases hf:findM T.dec c with
  | nil=>rfl
  | cons a r =>
   cases r with
   | nil=>rfl
   | cons b r =>
    cases r with
    | nil=>simp only;rw[ih (h a (by rw[hf];simp))]
    | cons _ _=>rfl
theorem compT_two {T : Tb} {c a b : Int} (h : Dp T.dec 256 c) (hf : findM T.dec c = [a, b]) :
  compT T c=(!excT T c&&(decide (clsT T c=0)&&(decide (clsT T a=0)&&(!hasM T.dec b&&((!hasM T.dec a||compT T a)&&(decide (clsT T b=0)||decide (clsT T (lastF T.dec a)≤clsT T b))))))):=by
 have:=cmpF_dp h
 unfold compT
 rw[←this,cmpF,hf]
theorem compT_not {T:Tb} {c:Int} (h:(findM T.dec c).length≠2):compT T c=false:=by
 unfold compT
 rw[cmpF]
 cases hf:findM T.dec c with
 | nil=>rfl
 | cons a r =>
  cases r with
  | nil=>rfl
  | cons b r =>
   cases r with
   | nil=>rw[hf]at h;simp at h
   | cons _ _=>rfl
def r6 (T:Tb):Bool:=T.dec.all short2&&T.dec.all fun m=>decide (siz T.dec m.1≤18)
def r7 (T:Tb):Bool:=T.exc.all (hasM T.dec)
def cmpTos (T:Tb) (l:List Mp):List (List Int):=(l.filter fun m=>compT T m.1).map (·.2)
def r8 (T:Tb):Bool:=decide (cmpTos T T.dec).Nodup
def plain (T:Tb) (c:Int):Bool := !hasM T.dec c && !ignT T c
def proOk (T:Tb) (m:Mp):Bool:=plain T m.1&&m.2.all fun c => !hasM T.pro c&&(!sylB c&&plain T c)
def r9 (T:Tb):Bool:=T.pro.all (proOk T)
def checkT (T:Tb):Int :=
 if r1 T=false then 1 else if r2 T=false then 2 else if r3 T=false then 3 else if r4 T=false then 4 else if r5 T=false then 5 else if r6 T=false then 6 else if r7 T=false then 7 else if r8 T=false then 8 else if r9 T=false then 9 else 0
theorem take_snoc_any (l:List Int) (k:Nat) (h:k<l.length):l.take (k+1)=l.take k++[l.getD k 0]:=by
 rw[List.take_succ_eq_append_getElem h];simp[h]
theorem getD_left {α:Type} (a b:List α) (n:Nat) (d:α) (h:n<a.length):(a++b).getD n d=a.getD n d:=by
 simp only[List.getD_eq_getElem?_getD,List.getElem?_append_left h]
theorem getD_right {α:Type} (a b:List α) (n:Nat) (d:α) (h:a.length≤n):(a++b).getD n d=b.getD (n-a.length) d:=by
 simp only[List.getD_eq_getElem?_getD,List.getElem?_append_right h]
def insR (k:Int→Int) (x:Int):List Int→List Int
 | []=>[x]
 | y::r=>if 0<k x∧k x<k y then y::insR k x r else x::y::r
def ordR (k:Int→Int):List Int→List Int→List Int
 | acc,[]=>acc
 | acc,x::l=>ordR k (insR k x acc) l
def ordS (k:Int→Int) (l:List Int):List Int:=(ordR k [] l).reverse
theorem ordR_append (k:Int→Int) (acc a b:List Int):ordR k acc (a++b)=ordR k (ordR k acc a) b:=by
 induction a generalizing acc with
 | nil=>rfl
 | cons x r ih=>exact ih _
theorem ordR_snoc (k:Int→Int) (acc a:List Int) (x:Int):ordR k acc (a++[x])=insR k x (ordR k acc a):=by rw[ordR_append];rfl
theorem insR_comm (k:Int→Int) {x y:Int} (hy:0<k y) (hxy:k y<k x) (R:List Int):insR k y (insR k x R)=insR k x (insR k y R):=by
 induction R with
 | nil =>
  have h1:0<k y∧k y<k x:=⟨hy,hxy⟩
  have h2:¬(0<k x∧k x<k y):=by omega
  simp only[insR,if_pos h1,if_neg h2]
 | cons z r ih =>
  by_cases h1:k x<k z
  ·have a1:0<k x∧k x<k z:=⟨by omega,h1⟩
   have a2:0<k y∧k y<k z:=⟨hy,by omega⟩
   rw[insR,if_pos a1,insR,if_pos a2,insR,if_pos a2,insR,if_pos a1,ih]
  ·by_cases h2:k y<k z
   ·have a1:¬(0<k x∧k x<k z):=by omega
    have a2:0<k y∧k y<k z:=⟨hy,by omega⟩
    have a3:0<k y∧k y<k x:=⟨hy,hxy⟩
    rw[insR,if_neg a1,insR,if_pos a3,insR,if_pos a2,insR,if_neg a1]
   ·have a1:¬(0<k x∧k x<k z):=by omega
    have a2:¬(0<k y∧k y<k z):=by omega
    have a3:0<k y∧k y<k x:=⟨hy,hxy⟩
    have a4:¬(0<k x∧k x<k y):=by omega
    rw[insR,if_neg a1,insR,if_pos a3,insR,if_neg a2,insR,if_neg a4]
theorem ordS_swap (k:Int→Int) (a b:List Int) {x y:Int} (hy:0<k y) (hxy:k y<k x):ordS k (a++x::y::b)=ordS k (a++y::x::b):=by
 unfold ordS
 rw[ordR_append,ordR_append]
 simp only[ordR]
 rw[insR_comm k hy hxy]
theorem insR_perm (k:Int→Int) (x:Int) (R:List Int):(insR k x R).Perm (x::R):=by
 induction R with
 | nil=>exact List.Perm.refl _
 | cons y r ih =>
  by_cases h:0<k x∧k x<k y
  ·rw[insR,if_pos h];exact(List.Perm.cons y ih).trans (List.Perm.swap x y r)
  ·rw[insR,if_neg h]
theorem ordR_perm (k:Int→Int) (acc l:List Int):(ordR k acc l).Perm (acc++l):=by
 induction l generalizing acc with
 | nil=>simp[ordR]
 | cons x r ih =>
  refine(ih _).trans ?_
  refine((insR_perm k x acc).append_right r).trans ?_
  rw[List.cons_append]
  exact(List.perm_middle (l₁:=acc) (l₂:=r) (a:=x)).symm
theorem ordS_perm (k:Int→Int) (l:List Int):(ordS k l).Perm l:=by
 unfold ordS
 exact(List.reverse_perm _).trans (by simpa using ordR_perm k [] l)
theorem ordS_length (k:Int→Int) (l:List Int):(ordS k l).length=l.length:=(ordS_perm k l).length_eq
def inOrd (k:Int→Int):List Int→Prop
 | x::y::r=>¬(0<k y∧k y<k x)∧inOrd k (y::r)
 | _=>True
def inOrdR (k:Int→Int):List Int→Prop
 | y::x::r=>¬(0<k y∧k y<k x)∧inOrdR k (x::r)
 | _=>True
theorem insR_inOrd (k:Int→Int) (x:Int) (R:List Int) (h:inOrdR k R):inOrdR k (insR k x R):=by
 induction R with
 | nil=>trivial
 | cons y r ih =>
  by_cases hc:0<k x∧k x<k y
  ·rw[insR,if_pos hc]
   cases r with
   | nil=>exact⟨by omega,trivial⟩
   | cons z s =>
    have i2:=ih h.2
    by_cases hd:0<k x∧k x<k z
    ·rw[insR,if_pos hd]at i2 ⊢;exact⟨h.1,i2⟩
    ·rw[insR,if_neg hd]at i2 ⊢;exact⟨by omega,i2⟩
  ·rw[insR,if_neg hc]
   exact⟨hc,h⟩
theorem ordR_inOrd (k:Int→Int) (acc l:List Int) (h:inOrdR k acc):inOrdR k (ordR k acc l):=by
 induction l generalizing acc with
 | nil=>exact h
 | cons x r ih=>exact ih _ (insR_inOrd k x acc h)
theorem inOrd_snoc (k:Int→Int) (l:List Int) (y x:Int):inOrd k (l++[x,y])↔inOrd k (l++[x])∧¬(0<k y∧k y<k x):=by
 induction l with
 | nil=>simp[inOrd]
 | cons a r ih =>
  cases r with
  | nil=>simp only[List.cons_append,List.nil_append,inOrd];constructor<;>(intro h;simp_all)
  | cons b s =>
   simp only[List.cons_append,inOrd]at ih ⊢
   rw[ih,and_assoc]
theorem inOrd_reverse (k:Int→Int) (R:List Int):inOrd k R.reverse↔inOrdR k R:=by
 induction R with
 | nil=>simp[inOrd,inOrdR]
 | cons y r ih =>
  cases r with
  | nil=>simp[inOrd,inOrdR]
  | cons x s =>
   have e:(y::x::s).reverse=s.reverse++[x,y]:=by simp
   have e2:(x::s).reverse=s.reverse++[x]:=by simp
   rw[e,inOrd_snoc,←e2,ih]
   simp only[inOrdR]
   exact And.comm
theorem ordS_inOrd (k:Int→Int) (l:List Int):inOrd k (ordS k l):=(inOrd_reverse k _).2 (ordR_inOrd k [] l trivial)
theorem ordR_id (k:Int→Int) (l acc:List Int) (h:inOrd k (acc.reverse++l)):ordR k acc l=l.reverse++acc:=by
 induction l generalizing acc with
 | nil=>simp[ordR]
 | cons x r ih =>
  have e:insR k x acc=x::acc:=by
   cases acc with
   | nil=>rfl
   | cons y s =>
    have hd:¬(0<k x∧k x<k y):=by
     have e2:(y::s).reverse++x::r=(s.reverse++[y,x])++r:=by simp
     rw[e2]at h
     have h2:inOrd k (s.reverse++[y,x]):=by
      clear e2 ih
      generalize s.reverse++[y,x]=A at h
      induction A with
      | nil=>trivial
      | cons a t iha =>
       cases t with
       | nil=>trivial
       | cons b u=>exact⟨h.1,iha h.2⟩
     exact((inOrd_snoc k _ _ _).1 h2).2
    rw[insR,if_neg hd]
  rw[ordR,e,ih (x::acc) (by simpa using h)]
  simp
theorem ordS_id (k:Int→Int) (l:List Int) (h:inOrd k l):ordS k l=l:=by
 unfold ordS
 rw[ordR_id k l [] (by simpa using h)]
 simp
theorem ordS_twice (k:Int→Int) (l:List Int):ordS k (ordS k l)=ordS k l:=ordS_id k _ (ordS_inOrd k l)
theorem ordS_id_iff (k:Int→Int) (l:List Int):ordS k l=l↔inOrd k l:=⟨fun h=>h▸ordS_inOrd k l,ordS_id k l⟩
theorem insR_zero (k:Int→Int) {z:Int} (hz:k z=0) (R:List Int):insR k z R=z::R:=by
 cases R with
 | nil=>rfl
 | cons y r=>rw[insR,if_neg (by omega)]
theorem insR_sep (k:Int→Int) {z:Int} (hz:k z=0) (x:Int) (A R:List Int):insR k x (A++z::R)=insR k x A++z::R:=by
 induction A with
 | nil=>simp only[List.nil_append,insR];rw[if_neg (by omega)];rfl
 | cons y r ih =>
  by_cases h:0<k x∧k x<k y
  ·rw[List.cons_append,insR,if_pos h,insR,if_pos h,ih];rfl
  ·rw[List.cons_append,insR,if_neg h,insR,if_neg h];rfl
theorem ordR_sep (k:Int→Int) {z:Int} (hz:k z=0) (b A R:List Int):ordR k (A++z::R) b=ordR k A b++z::R:=by
 induction b generalizing A with
 | nil=>rfl
 | cons x r ih=>rw[ordR,insR_sep k hz,ih];rfl
theorem ordS_sep (k:Int→Int) {z:Int} (hz:k z=0) (a b:List Int):ordS k (a++z::b)=ordS k a++z::ordS k b:=by
 unfold ordS
 rw[ordR_append]
 simp only[ordR]
 rw[insR_zero k hz]
 have:=ordR_sep k hz b [] (ordR k [] a)
 rw[List.nil_append]at this
 rw[this];simp
def invs (k:Int→Int):List Int→Nat
 | []=>0
 | x::r=>r.countP (fun y=>decide (0<k y∧k y<k x))+invs k r
theorem invs_swap (k:Int→Int) (a b:List Int) {x y:Int} (hy:0<k y) (hxy:k y<k x):invs k (a++y::x::b)<invs k (a++x::y::b):=by
 induction a with
 | nil =>
  have h1:(0<k y∧k y<k x):=⟨hy,hxy⟩
  have h2:¬(0<k x∧k x<k y):=by omega
  simp only[List.nil_append,invs,List.countP_cons,decide_eq_true h1,decide_eq_false h2]
  simp
  omega
 | cons z r ih =>
  simp only[List.cons_append,invs,List.countP_append,List.countP_cons]
  omega
def swp (l:List Int) (i:Nat):List Int:=(l.set i (l.getD (i+1) 0)).set (i+1) (l.getD i 0)
theorem swp_form (l:List Int) (i:Nat) (h:i+1<l.length):∃a b,a.length=i∧l=a++l.getD i 0::l.getD (i+1) 0::b∧swp l i=a++l.getD (i+1) 0::l.getD i 0::b:=by
 obtain⟨x,hx⟩:∃x,l.getD i 0=x:=⟨_,rfl⟩
 obtain⟨y,hy⟩:∃y,l.getD (i+1) 0=y:=⟨_,rfl⟩
 have e:l=l.take i++x::y::l.drop (i+2):=by
  have h1:i<l.length:=by omega
  have e1:l[i]=x:=by rw[←hx];simp[h1]
  have e2:l[i+1]=y:=by rw[←hy];simp[h]
  conv=>lhs;rw[←List.take_append_drop i l,List.drop_eq_getElem_cons h1,List.drop_eq_getElem_cons h,e1,e2]
 refine⟨l.take i,l.drop (i+2),by simp;omega,by rw[hx,hy];exact e,?_⟩
 have hl:(l.take i).length=i:=by simp;omega
 unfold swp
 rw[hx,hy]
 generalize l.drop (i+2)=D at e
 generalize l.take i=A at e hl
 subst e
 subst hl
 rw[List.set_append_right _ _ (Nat.le_refl _),List.set_append_right _ _ (by omega)]
 simp
theorem swp_length (l:List Int) (i:Nat):(swp l i).length=l.length:=by simp[swp]
theorem swp_ord (k:Int→Int) (l:List Int) (i:Nat) (h:i+1<l.length) (h0:0<k (l.getD (i+1) 0)) (h1:k (l.getD (i+1) 0)<k (l.getD i 0)):ordS k (swp l i)=ordS k l∧invs k (swp l i)<invs k l:=by
 obtain⟨a,b,ha,e1,e2⟩:=swp_form l i h
 rw[e2]
 generalize l.getD i 0=x at *
 generalize l.getD (i+1) 0=y at *
 rw[e1]
 exact⟨(ordS_swap k a b h0 h1).symm,invs_swap k a b h0 h1⟩
theorem inOrd_iff (k:Int→Int) (l:List Int):inOrd k l↔∀i,i+1<l.length→¬(0<k (l.getD (i+1) 0)∧k (l.getD (i+1) 0)<k (l.getD i 0)):=by
 induction l with
 | nil=>simp[inOrd]
 | cons x r ih =>
  cases r with
  | nil=>simp[inOrd]
  | cons y s =>
   simp only[inOrd,ih]
   constructor
   ·rintro ⟨h1,h2⟩ i hi
    cases i with
    | zero=>simpa using h1
    | succ j=>have:=h2 j (by simpa using hi);simpa using this
   ·intro h
    refine⟨by have:=h 0 (by simp);simpa using this,fun i hi=>?_⟩
    have:=h (i+1) (by simpa using hi)
    simpa using this
def plc (ks:List Int) (c:Int):Nat→Nat
 | 0=>0
 | n+1=>if 0<c∧c<ks.getD n 0 then plc ks c n else n+1
theorem plc_le (ks:List Int) (c:Int) (n:Nat):plc ks c n≤n:=by
 induction n with
 | zero=>exact Nat.le_refl _
 | succ m ih=>unfold plc;split<;>omega
theorem plc_append (ks js:List Int) (c:Int) (n:Nat) (h:n≤ks.length):plc (ks++js) c n=plc ks c n:=by
 induction n with
 | zero=>rfl
 | succ m ih =>
  unfold plc
  rw[getD_left _ _ _ _ (by omega),ih (by omega)]
theorem insR_plc (k:Int→Int) (x:Int) (R:List Int):(insR k x R).reverse=R.reverse.take (plc (R.reverse.map k) (k x) R.length)++x::R.reverse.drop (plc (R.reverse.map k) (k x) R.length):=by
 induction R with
 | nil=>rfl
 | cons y r ih =>
  have e:((y::r).reverse.map k)=r.reverse.map k++[k y]:=by simp
  have eg:(r.reverse.map k++[k y]).getD r.length 0=k y:=by
   rw[getD_right _ _ _ _ (by simp)];simp
  rw[e,List.length_cons]
  unfold plc
  rw[eg]
  by_cases h:0<k x∧k x<k y
  ·rw[insR,if_pos h,if_pos h,plc_append _ _ _ _ (by simp)]
   rw[List.reverse_cons,ih,List.reverse_cons]
   have hp:=plc_le (r.reverse.map k) (k x) r.length
   generalize plc (r.reverse.map k) (k x) r.length=p at *
   rw[List.take_append_of_le_length (by simp;omega),List.drop_append_of_le_length (by simp;omega)]
   simp
  ·rw[insR,if_neg h,if_neg h]
   have e2:(y::r).reverse.length=r.length+1:=by simp
   rw[List.take_of_length_le (by omega),List.drop_eq_nil_of_le (by omega)]
   simp
def mvb (l:List Int) (f t:Nat):List Int:=l.take t++l.getD f 0::((l.drop t).take (f-t)++l.drop (f+1))
theorem mvb_map (k:Int→Int) (l:List Int) (f t:Nat) (hf:f<l.length):(mvb l f t).map k=mvb (l.map k) f t:=by
 have e:(l.map k).getD f 0=k (l.getD f 0):=by simp[List.getD,List.getElem?_eq_getElem hf]
 unfold mvb
 rw[e]
 simp[List.map_take,List.map_drop]
def ordAt (k:Int→Int) (l:List Int) (i:Nat):List Int:=ordS k (l.take i)++l.drop i
theorem ordAt_zero (k:Int→Int) (l:List Int):ordAt k l 0=l:=by simp[ordAt,ordS,ordR]
theorem ordAt_end (k:Int→Int) (l:List Int):ordAt k l l.length=ordS k l:=by simp[ordAt]
theorem ordAt_length (k:Int→Int) (l:List Int) (i:Nat):(ordAt k l i).length=l.length:=by
 unfold ordAt
 rw[List.length_append,ordS_length,List.length_take,List.length_drop]
 omega
theorem ordAt_step (k : Int → Int) (l : List Int) (i : Nat) (hi : i < l.length) :
  mvb (ordAt k l i) i (plc ((ordAt k l i).map k) (k ((ordAt k l i).getD i 0)) i)=ordAt k l (i+1):=by
 have hl:(ordS k (l.take i)).length=i:=by rw[ordS_length];simp;omega
 have e1:(ordAt k l i).getD i 0=l.getD i 0:=by
  unfold ordAt
  rw[getD_right _ _ _ _ (by omega),hl]
  simp
 have ed:l.drop i=l.getD i 0::l.drop (i+1):=by
  have:l.getD i 0=l[i]:=by simp[hi]
  rw[this,←List.drop_eq_getElem_cons hi]
 have et:l.take (i+1)=l.take i++[l.getD i 0]:=take_snoc_any l i hi
 rw[e1]
 unfold ordAt
 rw[et]
 generalize hx:l.getD i 0=x at *
 rw[ed]
 unfold ordS at hl ⊢
 rw[ordR_snoc,insR_plc]
 have hRl:(ordR k [] (l.take i)).length=i:=by simpa using hl
 generalize ordR k [] (l.take i)=R at *
 rw[List.map_append,plc_append _ _ _ _ (by simp[hRl]),hRl]
 have hp:=plc_le (R.reverse.map k) (k x) i
 generalize plc (R.reverse.map k) (k x) i=p at *
 unfold mvb
 rw[getD_right _ _ _ _ (by omega),hl]
 rw[List.take_append_of_le_length (by omega),List.drop_append_of_le_length (by omega)]
 have e3:(R.reverse++x::l.drop (i+1)).drop (i+1)=l.drop (i+1):=by
  rw[List.drop_append,List.drop_eq_nil_of_le (by omega),hl]
  simp
 rw[e3]
 have e4:(R.reverse.drop p++x::l.drop (i+1)).take (i-p)=R.reverse.drop p:=by
  rw[List.take_append_of_le_length (by simp[hRl]),List.take_of_length_le (by simp[hRl])]
 rw[e4]
 simp
def openA (bs:List Bool) (i:Nat):Bool:=bs.getD i false
def openB (bs:List Bool):Nat→Bool
 | 0=>false
 | i+1=>openA bs i
def edgeA (bs:List Bool) (i:Nat):Bool:=openB bs i !=openA bs i
def edgesN (bs:List Bool):Nat→List Int
 | 0=>[]
 | n+1=>edgesN bs n++if edgeA bs n then [(n:Int)]else []
theorem edges_succ (bs:List Bool) (n:Nat):edgesN bs (n+1)=edgesN bs n++if edgeA bs n then [(n:Int)]else []:=rfl
def runsS (bs:List Bool):List Int:=edgesN bs (bs.length+1)
theorem edges_odd (bs:List Bool) (n:Nat):(edgesN bs n).length%2=if openB bs n then 1 else 0:=by
 induction n with
 | zero=>rfl
 | succ m ih =>
  rw[edges_succ];unfold edgeA
  rw[List.length_append]
  show _=if openA bs m=true then 1 else 0
  cases h1:openB bs m<;>cases h2:openA bs m<;>simp[h1]at ih ⊢<;>omega
theorem edges_len (bs:List Bool) (n:Nat):(edgesN bs n).length≤n:=by
 induction n with
 | zero=>simp[edgesN]
 | succ m ih=>rw[edges_succ];split<;>simp<;>omega
theorem openB_end (bs:List Bool):openA bs bs.length=false:=by simp[openA]
theorem edges_still (bs:List Bool) (i j:Nat) (hij:i≤j) (h:∀m,i≤m→m<j→edgeA bs m=false):edgesN bs j=edgesN bs i:=by
 induction j with
 | zero => have : i = 0 := by omega
           subst this;rfl
 | succ m ih =>
  by_cases e:i=m+1
  ·subst e;rfl
  ·rw[edges_succ,h m (by omega) (by omega),ih (by omega) (fun x h1 h2=>h x h1 (by omega))]
   simp
theorem edges_run (bs:List Bool) (i k:Nat) (hik:i<k) (h0:openB bs i=false) (h1:∀m,i≤m→m<k→openA bs m=true) (h2:openA bs k=false):edgesN bs (k+1)=edgesN bs i++[(i:Int),(k:Int)]:=by
 have hb:∀m,i<m→m≤k→openB bs m=true:=by
  intro m a b
  cases m with
  | zero=>omega
  | succ n=>exact h1 n (by omega) (by omega)
 have e1:edgesN bs (i+1)=edgesN bs i++[(i:Int)]:=by
  rw[edges_succ]
  have:edgeA bs i=true:=by unfold edgeA;rw[h0,h1 i (Nat.le_refl _) hik];rfl
  rw[this];rfl
 have e2:edgesN bs k=edgesN bs (i+1):=edges_still bs (i+1) k (by omega) (fun m a b=>by unfold edgeA;rw[hb m (by omega) (by omega),h1 m (by omega) b];rfl)
 rw[edges_succ]
 have:edgeA bs k=true:=by unfold edgeA;rw[hb k hik (Nat.le_refl _),h2];rfl
 rw[this,e2,e1]
 simp
end Go.Proofs.YtblcoicaeeiojaaGreatDoor
