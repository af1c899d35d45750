/- A stable sort of indices by the code points that stand there -/
import Derived.Sort.LotA
import Derived.Test.YtblcoicaeeiojaaGreatDoorSSiPmPunSpec3
set_option linter.unusedSimpArgs false
set_option linter.unusedVariables false
namespace Go.Proofs.YtblcoicaeeiojaaGreatDoor
open Go.Sort
def keyS (l:List Int) (x:Int):Int:=l.getD x.toNat 0
def ltT (l:List Int) (x y:Int):Bool:=decide (keyS l x<keyS l y)||(decide (keyS l x=keyS l y)&&decide (x<y))
def ltC (l:List Int) (x y:Int):Bool:=decide (keyS l x<keyS l y)
theorem ltT_iff {l:List Int} {x y:Int}:ltT l x y=true↔keyS l x<keyS l y∨(keyS l x=keyS l y∧x<y):=by unfold ltT;simp
theorem ltT_no {l:List Int} {x y:Int}:ltT l x y=false↔keyS l y<keyS l x∨(keyS l x=keyS l y∧y≤x):=by
 rw[←Bool.not_eq_true,ltT_iff];omega
theorem ltT_swo (l:List Int):SWO (ltT l) where
 irrefl x:=by rw[ltT_no];omega
 trans x y z h1 h2:=by rw[ltT_iff]at *;omega
 ntrans x y z h1 h2:=by rw[ltT_no]at *;omega
theorem ltT_asym {l:List Int} {x y:Int} (h:ltT l x y=true):ltT l y x=false:=by rw[ltT_iff]at h;rw[ltT_no];omega
theorem ltC_eq {l:List Int} {x y:Int} (h:y<x):ltC l x y=ltT l x y:=by
 rw[Bool.eq_iff_iff,ltT_iff];unfold ltC;simp;omega
def pcmpI (l:List Int) (x y:Int):Int:=if keyS l x<keyS l y then -1 else if keyS l y<keyS l x then 1 else 0
theorem pcmpI_iff {l:List Int} {x y:Int}:pcmpI l x y<0↔ltC l x y=true:=by
 unfold pcmpI ltC
 simp only[decide_eq_true_eq]
 split
 ·omega
 ·split<;>omega
def rotF (s m e:Nat) (d:Nat→Int) (k:Nat):Int :=
 if s≤k∧k<s+(e-m)then d (k+(m-s))else if s+(e-m)≤k∧k<e then d (k-(e-m))else d k
def xchF (a b n:Nat) (d:Nat→Int) (k:Nat):Int :=
 if a≤k∧k<a+n then d (k-a+b)else if b≤k∧k<b+n then d (k-b+a)else d k
theorem rotF_left {m i j:Nat} {d:Nat→Int} (hi:i≤m) (hij:j<i) (k:Nat):rotF (m-i) m (m+j) d k=rotF (m-(i-j)) m (m+j) (xchF (m-i) m j d) k:=by
 unfold rotF xchF
 repeat' split
 all_goals first
  | (exfalso;omega)
  | rfl
  | (congr 1<;>omega)
theorem rotF_right {m i j:Nat} {d:Nat→Int} (hi:i≤m) (hij:i<j) (k:Nat):rotF (m-i) m (m+j) d k=rotF (m-i) m (m+(j-i)) (xchF (m-i) (m+j-i) i d) k:=by
 unfold rotF xchF
 repeat' split
 all_goals first
  | (exfalso;omega)
  | rfl
  | (congr 1<;>omega)
theorem rotF_end {m i:Nat} {d:Nat→Int} (hi:i≤m) (k:Nat):rotF (m-i) m (m+i) d k=xchF (m-i) m i d k:=by
 unfold rotF xchF
 repeat' split
 all_goals first
  | (exfalso;omega)
  | rfl
  | (congr 1<;>omega)
theorem rotF_none {s m e:Nat} {d:Nat→Int} (h:s=m∨m=e) (k:Nat):rotF s m e d k=d k:=by
 unfold rotF
 repeat' split
 all_goals first
  | rfl
  | (exfalso;omega)
  | rfl
  | (congr 1<;>omega)
theorem rotF_congr {s m e:Nat} {d d':Nat→Int} (h:∀k,d k=d' k) (k:Nat):rotF s m e d k=rotF s m e d' k:=by
 unfold rotF;simp only[h]
theorem rot_sorted {lt : Int → Int → Bool} {a s m e b : Nat} {d d' : Array Int} (has : a ≤ s) (hsm : s ≤ m) (hme : m ≤ e) (heb : e ≤ b)
  (hr:∀k,d'[k]! = rotF s m e (fun k=>d[k]!) k) (h1:SortedIn lt a m d) (h2:SortedIn lt m b d)
  (c1:∀i j,a≤i→i<s→m≤j→j<e→lt d[j]! d[i]! = false)
  (c2:∀i j,s≤i→i<m→m≤j→j<e→lt d[i]! d[j]! = false)
  (c3:∀i j,s≤i→i<m→e≤j→j<b→lt d[j]! d[i]! = false)
  (c4:∀i j,a≤i→i<s→e≤j→j<b→lt d[j]! d[i]! = false):SortedIn lt a b d':=by
 intro p q hp hpq hq
 rw[hr,hr]
 unfold rotF
 by_cases p1:s≤p∧p<s+(e-m)
 ·rw[if_pos p1]
  by_cases q1:s≤q∧q<s+(e-m)
  ·rw[if_pos q1];exact h2 _ _ (by omega) (by omega) (by omega)
  ·rw[if_neg q1]
   by_cases q2:s+(e-m)≤q∧q<e
   ·rw[if_pos q2];exact c2 _ _ (by omega) (by omega) (by omega) (by omega)
   ·rw[if_neg q2];exact h2 _ _ (by omega) (by omega) (by omega)
 ·rw[if_neg p1]
  by_cases p2:s+(e-m)≤p∧p<e
  ·rw[if_pos p2]
   by_cases q1:s≤q∧q<s+(e-m)
   ·omega
   ·rw[if_neg q1]
    by_cases q2:s+(e-m)≤q∧q<e
    ·rw[if_pos q2];exact h1 _ _ (by omega) (by omega) (by omega)
    ·rw[if_neg q2];exact c3 _ _ (by omega) (by omega) (by omega) (by omega)
  ·rw[if_neg p2]
   by_cases p3:p<s
   ·by_cases q1:s≤q∧q<s+(e-m)
    ·rw[if_pos q1];exact c1 _ _ (by omega) (by omega) (by omega) (by omega)
    ·rw[if_neg q1]
     by_cases q2:s+(e-m)≤q∧q<e
     ·rw[if_pos q2];exact h1 _ _ (by omega) (by omega) (by omega)
     ·rw[if_neg q2]
      by_cases q3:q<s
      ·exact h1 _ _ (by omega) (by omega) (by omega)
      ·exact c4 _ _ (by omega) (by omega) (by omega) (by omega)
   ·by_cases q1:s≤q∧q<s+(e-m)
    ·omega
    ·rw[if_neg q1]
     by_cases q2:s+(e-m)≤q∧q<e
     ·omega
     ·rw[if_neg q2];exact h2 _ _ (by omega) (by omega) (by omega)
structure Mrg (l:List Int) (a m b:Nat) (d:Array Int):Prop where
 am:a≤m
 mb:m≤b
 size:b≤d.size
 left:SortedIn (ltT l) a m d
 right:SortedIn (ltT l) m b d
 cross:∀i j,a≤i→i<m→m≤j→j<b→d[i]! < d[j]!
theorem Mrg.cmp {l:List Int} {a m b:Nat} {d:Array Int} (h:Mrg l a m b d) {i j:Nat} (h1:a≤i) (h2:i<m) (h3:m≤j) (h4:j<b):(pcmpI l d[j]! d[i]! < 0)↔ltT l d[j]! d[i]! = true:=by
 rw[pcmpI_iff,ltC_eq (h.cross i j h1 h2 h3 h4)]
theorem Mrg.one_left {l : List Int} {a m b i : Nat} {d d' : Array Int} (h : Mrg l a m b d) (h1 : m = a + 1) (hi : m ≤ i) (hib : i ≤ b)
  (b1:m<i→ltT l d[i-1]! d[a]! = true) (b2:i<b→ltT l d[i]! d[a]! = false) (hr:∀k,d'[k]! = rotF a m i (fun k=>d[k]!) k):SortedIn (ltT l) a b d':=by
 have hS:=ltT_swo l
 refine rot_sorted (Nat.le_refl a) h.am hi hib hr h.left h.right (fun _ _ _ _ _ _=>by omega) (fun x j hx hx2 hj hj2=>?_) (fun x j hx hx2 hj hj2=>?_) (fun _ _ _ _ _ _=>by omega)
 ·obtain rfl:x=a:=by omega
  have:=ltT_asym (b1 (by omega))
  by_cases e:j=i-1
  ·rw[e];exact this
  ·exact hS.ntrans _ _ _ this (h.right _ _ hj (by omega) (by omega))
 ·obtain rfl:x=a:=by omega
  have:=b2 (by omega)
  by_cases e:j=i
  ·rw[e];exact this
  ·exact hS.ntrans _ _ _ (h.right _ _ hi (by omega) hj2) this
theorem Mrg.one_right {l : List Int} {a m b i : Nat} {d d' : Array Int} (h : Mrg l a m b d) (h1 : b = m + 1) (hi : a ≤ i) (him : i ≤ m)
  (b1:a<i→ltT l d[m]! d[i-1]! = false) (b2:i<m→ltT l d[m]! d[i]! = true) (hr:∀k,d'[k]! = rotF i m b (fun k=>d[k]!) k):SortedIn (ltT l) a b d':=by
 have hS:=ltT_swo l
 refine rot_sorted hi him h.mb (Nat.le_refl b) hr h.left h.right (fun x j hx hx2 hj hj2=>?_) (fun x j hx hx2 hj hj2=>?_) (fun _ _ _ _ _ _=>by omega) (fun _ _ _ _ _ _=>by omega)
 ·obtain rfl:j=m:=by omega
  have:=b1 (by omega)
  by_cases e:x=i-1
  ·rw[e];exact this
  ·exact hS.ntrans _ _ _ this (h.left _ _ hx (by omega) (by omega))
 ·obtain rfl:j=m:=by omega
  have:=ltT_asym (b2 (by omega))
  by_cases e:x=i
  ·rw[e];exact this
  ·exact hS.ntrans _ _ _ (h.left _ _ hi (by omega) hx2) this
def sym0 (a m b:Nat):Nat × Nat:=if(a+b) / 2<m then((a+b) / 2+m-b,(a+b) / 2) else(a,m)
theorem Mrg.halves {l : List Int} {a m b s : Nat} {d d' : Array Int} (h : Mrg l a m b d) (ha : a + 2 ≤ m) (hb : m + 2 ≤ b)
  (hs:(sym0 a m b).1≤s) (hs2:s≤(sym0 a m b).2)
  (b1:(sym0 a m b).1<s→ltT l d[(a+b) / 2+m-1-(s-1)]! d[s-1]! = false) (b2:s<(sym0 a m b).2→ltT l d[(a+b) / 2+m-1-s]! d[s]! = true)
  (hd:d'.size=d.size) (hr:∀k,d'[k]! = rotF s m ((a+b) / 2+m-s) (fun k=>d[k]!) k) :
  Mrg l a s ((a+b) / 2) d'∧Mrg l ((a+b) / 2) ((a+b) / 2+m-s) b d'∧∀i j,a≤i→i<(a+b) / 2→(a+b) / 2≤j→j<b→ltT l d'[j]! d'[i]! = false:=by
 have hS:=ltT_swo l
 obtain⟨c,hc⟩:∃c,(a+b) / 2=c:=⟨_,rfl⟩
 obtain⟨s0,r0,hsr⟩:∃s0 r0,sym0 a m b=(s0,r0):=⟨_,_,rfl⟩
 rw[hsr]at hs hs2 b1 b2
 simp only at hs hs2 b1 b2
 have hsr2:(c<m∧s0=c+m-b∧r0=c)∨(m≤c∧s0=a∧r0=m):=by
  unfold sym0 at hsr
  rw[hc]at hsr
  split at hsr
  ·left;injection hsr with h1 h2;omega
  ·right;injection hsr with h1 h2;omega
 have hcb:a+2≤c∧c+2≤b:=by omega
 have hc2:2*c≤a+b∧a+b≤2*c+1:=by omega
 rw[hc]at hr b1 b2 ⊢
 clear hc hsr
 have has:a≤s:=by omega
 have hsm:s≤m:=by omega
 have hsc:s≤c:=by omega
 obtain⟨e,he⟩:∃e,c+m-s=e:=⟨_,rfl⟩
 rw[he]at hr ⊢
 have hme:m≤e:=by omega
 have hce:c≤e:=by omega
 have heb:e≤b:=by omega
 have hse:s+(e-m)=c:=by omega
 have f1:∀k,k<s→d'[k]! = d[k]! := fun k hk=>by rw[hr];unfold rotF;rw[if_neg (by omega),if_neg (by omega)]
 have f2:∀k,s≤k→k<c→d'[k]! = d[k+(m-s)]! := fun k h1 h2=>by rw[hr];unfold rotF;rw[if_pos (by omega)]
 have f3:∀k,c≤k→k<e→d'[k]! = d[k-(e-m)]! := fun k h1 h2=>by rw[hr];unfold rotF;rw[if_neg (by omega),if_pos (by omega)]
 have f4:∀k,e≤k→d'[k]! = d[k]! := fun k hk=>by rw[hr];unfold rotF;rw[if_neg (by omega),if_neg (by omega)]
 refine⟨⟨has,hsc,by rw[hd];have:=h.size;omega,?_,?_,?_⟩,⟨hce,heb,by rw[hd];exact h.size,?_,?_,?_⟩,?_⟩
 ·intro i j h1 h2 h3;rw[f1 i (by omega),f1 j h3];exact h.left i j h1 h2 (by omega)
 ·intro i j h1 h2 h3;rw[f2 i h1 (by omega),f2 j (by omega) h3];exact h.right _ _ (by omega) (by omega) (by omega)
 ·intro i j h1 h2 h3 h4;rw[f1 i h2,f2 j h3 h4];exact h.cross _ _ h1 (by omega) (by omega) (by omega)
 ·intro i j h1 h2 h3;rw[f3 i h1 (by omega),f3 j (by omega) h3];exact h.left _ _ (by omega) (by omega) (by omega)
 ·intro i j h1 h2 h3;rw[f4 i h1,f4 j (by omega)];exact h.right _ _ (by omega) h2 h3
 ·intro i j h1 h2 h3 h4;rw[f3 i h1 h2,f4 j h3];exact h.cross _ _ (by omega) (by omega) (by omega) h4
 ·intro i j h1 h2 h3 h4
  by_cases hi:i<s
  ·rw[f1 i hi]
   by_cases hj:j<e
   ·rw[f3 j h3 hj];exact h.left _ _ h1 (by omega) (by omega)
   ·rw[f4 j (by omega)]
    have hb1:=b1 (by omega)
    rw[show c+m-1-(s-1)=e by omega]at hb1
    have x1:ltT l d[j]! d[s-1]! = false:=by
     by_cases ej:j=e
     ·rw[ej];exact hb1
     ·exact hS.ntrans _ _ _ (h.right e j hme (by omega) h4) hb1
    by_cases ei:i=s-1
    ·rw[ei];exact x1
    ·exact hS.ntrans _ _ _ x1 (h.left i (s-1) h1 (by omega) (by omega))
  ·rw[f2 i (by omega) h2]
   by_cases hj:j<e
   ·rw[f3 j h3 hj]
    have hb2:=ltT_asym (b2 (by omega))
    rw[show c+m-1-s=e-1 by omega]at hb2
    have x1:ltT l d[j-(e-m)]! d[e-1]! = false:=by
     by_cases ej:j-(e-m)=s
     ·rw[ej];exact hb2
     ·exact hS.ntrans _ _ _ (h.left s (j-(e-m)) (by omega) (by omega) (by omega)) hb2
    by_cases ei:i+(m-s)=e-1
    ·rw[ei];exact x1
    ·exact hS.ntrans _ _ _ x1 (h.right _ _ (by omega) (by omega) (by omega))
   ·rw[f4 j (by omega)];exact h.right _ _ (by omega) (by omega) h4
theorem halves_done {lt : Int → Int → Bool} {a c b : Nat} {d d1 d2 : Array Int} (hb : b ≤ d.size) (hac : a ≤ c) (hcb : c ≤ b) (hx : ∀ i j, a ≤ i → i < c → c ≤ j → j < b → lt d[j]! d[i]! = false)
  (p1:PermIn a c d d1) (s1:SortedIn lt a c d1) (p2:PermIn c b d1 d2) (s2:SortedIn lt c b d2):SortedIn lt a b d2:=by
 have e1:∀i,i<c→d2[i]! = d1[i]! := fun i hi=>p2.2.1 i (.inl hi)
 have e2:∀j,c≤j→d1[j]! = d[j]! := fun j hj=>p1.2.1 j (.inr hj)
 intro i j h1 h2 h3
 by_cases hj:j<c
 ·rw[e1 i (by omega),e1 j hj];exact s1 i j h1 h2 hj
 ·by_cases hi:i<c
  ·rw[e1 i hi]
   have q1:∀j,c≤j→j<b→∀i,a≤i→i<c→lt d[j]! d1[i]! = false:=fun j hj hj2 =>
    permIn_all d d1 a c (fun x=>lt d[j]! x=false) (by omega) p1 (fun i h1 h2=>hx i j h1 h2 hj hj2)
   have q2:=permIn_all d1 d2 c b (fun y=>lt y d1[i]! = false) (by rw[p1.1];exact hb) p2 (fun j hj hj2=>by rw[e2 j hj];exact q1 j hj hj2 i h1 hi)
   exact q2 j (by omega) h3
  ·exact s2 i j (by omega) h2 h3
theorem SortedIn.mono {lt:Int→Int→Bool} {a b a' b':Nat} {d:Array Int} (h:SortedIn lt a b d) (ha:a≤a') (hb:b'≤b):SortedIn lt a' b' d:=fun i j h1 h2 h3=>h i j (by omega) h2 (by omega)
theorem SortedIn.congr {lt:Int→Int→Bool} {a b:Nat} {d d':Array Int} (h:SortedIn lt a b d) (hd:∀k,a≤k→k<b→d'[k]! = d[k]!):SortedIn lt a b d':=fun i j h1 h2 h3=>by rw[hd i h1 (by omega),hd j (by omega) h3];exact h i j h1 h2 h3
def cntLe (x:Int):List Int→Nat
 | []=>0
 | c::r=>(if c≤x then 1 else 0)+cntLe x r
def pbL (l:List Int) (a:Nat):Nat:=cntLe (l.getD a 0) (l.take a)
theorem cntLe_append (x:Int):∀(s t:List Int),cntLe x (s++t)=cntLe x s+cntLe x t
 | [],t=>by simp[cntLe]
 | c::s,t=>by rw[List.cons_append,cntLe,cntLe,cntLe_append x s t];omega
theorem cntLe_le (x:Int):∀(s:List Int),cntLe x s≤s.length
 | []=>by simp[cntLe]
 | c::s=>by have:=cntLe_le x s;rw[cntLe];simp;split<;>omega
theorem pbL_le (l:List Int) (a:Nat):pbL l a≤a:=Nat.le_trans (cntLe_le _ _) (by simp;omega)
def stepI (l:List Int) (P:Nat) (n:Int) (i a:Nat):Int:=(l.getD a 0-n)*((P:Int)+1)+pbL l a-i
def encI (l:List Int):List Nat→Nat→Int→Nat→Nat→Bool→List Int
 | [],_,_,_,_,_=>[]
 | a::r,P,n,i,b,first=>(pnumS b 0 (stepI l P n i a).toNat).map pdigB++encI l r (P+1) (l.getD a 0) (pbL l a+1) (adaptN (stepI l P n i a).toNat (P+1) first) false
def GoodI (l:List Int):List Nat→Nat→Int→Nat→Prop
 | [],_,_,_=>True
 | a::r,P,n,i=>a<l.length∧n≤l.getD a 0∧pbL l a≤P∧0≤stepI l P n i a∧stepI l P n i a≤2147483647∧GoodI l r (P+1) (l.getD a 0) (pbL l a+1)
theorem step_split {x n:Int} {P PL V i:Nat} (h:(x-n)*((P:Int)+1)+PL-i=V) (hn:n≤x) (hP:PL≤P):n+(((V+i) / (P+1):Nat):Int)=x∧(V+i)%(P+1)=PL:=by
 obtain⟨q,hq⟩:∃q:Nat,x-n=q:=⟨(x-n).toNat,by omega⟩
 rw[hq]at h
 have h1:V+i=q*(P+1)+PL:=by
  have h2:(q:Int)*((P:Int)+1)=((q*(P+1):Nat):Int):=by rw[Int.natCast_mul];rfl
  rw[h2]at h
  omega
 have e1:(V+i) / (P+1)=q:=by rw[h1,Nat.mul_comm,Nat.mul_add_div (by omega),Nat.div_eq_of_lt (by omega)];omega
 have e2:(V+i)%(P+1)=PL:=by rw[h1,Nat.mul_comm,Nat.mul_add_mod,Nat.mod_eq_of_lt (by omega)]
 exact⟨by rw[e1];omega,e2⟩
theorem placed_cnt (x:Int):∀(L:List Int) (G:List Bool),G.length=L.length→(∀j,j<L.length→(G.getD j true=true↔L.getD j 0≤x))→(placed L G).length=cntLe x L
 | [],G,_,_=>by cases G<;>simp[placed,cntLe]
 | c::L,[],h,_=>by simp at h
 | c::L,b::G,h,hh=>by
  have h0:=hh 0 (by simp)
  simp at h0
  have ih:=placed_cnt x L G (by simpa using h) (fun j hj=>by have:=hh (j+1) (by simpa using hj);simpa using this)
  rw[placed,cntLe]
  by_cases hb:b=true
  ·rw[if_pos hb,if_pos (h0.1 hb),List.length_cons,ih];omega
  ·rw[if_neg hb,if_neg (fun e=>hb (h0.2 e)),ih];omega
theorem keyS_nat (l:List Int) (a:Nat):keyS l (a:Int)=l.getD a 0:=by unfold keyS;simp
theorem pcs_pb {l:List Int} {F:List Bool} {a:Nat} (hF:F.length=l.length) (ha:a<l.length) (hin:∀j,j<a→F.getD j true=true→ltT l j a=true) (hout:∀j,j<a→F.getD j true=false→ltT l a j=true):pcs l F a=pbL l a:=by
 unfold pcs pbL
 refine placed_cnt _ _ _ (by simp[hF]) (fun j hj=>?_)
 have hja:j<a:=by simp at hj;omega
 have e1:(F.take a).getD j true=F.getD j true:=by simp[List.getD,hja]
 have e2:(l.take a).getD j 0=l.getD j 0:=by simp[List.getD,hja]
 rw[e1,e2]
 cases hb:F.getD j true with
 | true =>
  have:=ltT_iff.1 (hin j hja hb)
  rw[keyS_nat,keyS_nat]at this
  exact⟨fun _=>by omega,fun _=>rfl⟩
 | false =>
  have:=ltT_iff.1 (hout j hja hb)
  rw[keyS_nat,keyS_nat]at this
  exact⟨fun h=>(by cases h),fun h=>by omega⟩
theorem enc_idx (l : List Int) (hs : ∀ c ∈ l, scpB c = true) (hlen : l.length ≤ 256) : ∀ (I : List Nat) (F : List Bool) (n : Int) (i b : Nat) (first : Bool),
  F.length=l.length→Ahead l F n i→0≤n→i≤(placed l F).length→
  (∀a,a∈I↔a<l.length∧F.getD a true=false)→I.Pairwise (fun x y:Nat=>ltT l x y=true)→
  (∀j,j<l.length→F.getD j true=true→∀a∈I,ltT l j a=true)→
  pencL l I.length F n i b first=encI l I (placed l F).length n i b first∧GoodI l I (placed l F).length n i∧(placed l F).length+I.length=l.length
 | [],F,n,i,b,first,hF,hA,hn,hi,hI,hp,hc=>by
  refine⟨rfl,trivial,?_⟩
  have:placed l F=l:=placed_all l F hF (fun k hk=>by
   cases hb:F.getD k true with
   | true=>rfl
   | false=>have:=(hI k).2 ⟨hk,hb⟩;cases this)
  rw[this];simp
 | a::r,F,n,i,b,first,hF,hA,hn,hi,hI,hp,hc=>by
  obtain⟨hp1,hp2⟩:=List.pairwise_cons.1 hp
  obtain⟨ha,hfa⟩:=(hI a).1 (by simp)
  have hother:∀k,k<l.length→F.getD k true=false→k≠a→ltT l a k=true:=fun k hk hf hne=>by
   have:=(hI k).2 ⟨hk,hf⟩
   rcases List.mem_cons.1 this with e|e
   ·exact absurd e hne
   ·exact hp1 k e
  have hL:IsLeast l F l.length a:=⟨ha,hfa,fun k hk hf=>by
   by_cases e:k=a
   ·subst e;exact⟨Int.le_refl _,fun _=>Nat.le_refl _⟩
   ·have:=ltT_iff.1 (hother k hk hf e)
    rw[keyS_nat,keyS_nat]at this
    exact⟨by omega,fun _=>by omega⟩⟩
  have hpc:pcs l F a=pbL l a:=pcs_pb hF ha (fun j hj hb=>hc j (by omega) hb a (by simp)) (fun j hj hb=>hother j (by omega) hb (by omega))
  obtain⟨hna,hA',hij⟩:=ahead_step hF hL hA
  have hj:=pcs_le l F hF ha
  obtain⟨_,hplen⟩:=putD_placed hF ha hfa
  obtain⟨_,hv⟩:=step_back (P:=placed l F) (v:=stepV l F n i a) hna hj hij hi rfl
  have hvb:=stepV_bd hs hlen hF hn (Nat.le_trans (placed_len l F) hlen) ha (i:=i)
  have hsv:stepI l (placed l F).length n i a=(stepV l F n i a:Nat):=by
   rw[hv,hpc]
   unfold stepI
   congr 3
  have hsc2:=scp_bd (hs (l.getD a 0) (by simp[ha]))
  have ih:=enc_idx l hs hlen r (F.set a true) (l.getD a 0) (pcs l F a+1) (adaptN (stepV l F n i a) ((placed l F).length+1) first) false (by simpa using hF) hA' hsc2.1 (by rw[hplen];omega)
   (fun k=>by
    constructor
    ·intro hk
     obtain⟨k1,k2⟩:=(hI k).1 (by simp[hk])
     have hne:a≠k:=fun e=>by
      subst e
      have:=hp1 a hk
      rw[(ltT_swo l).irrefl]at this;cases this
     exact⟨k1,by rw[getD_set_ne F a k true hne];exact k2⟩
    ·rintro ⟨k1,k2⟩
     have hne:a≠k:=fun e=>by subst e;rw[getD_set_eq F a true (by omega)]at k2;cases k2
     rw[getD_set_ne F a k true hne]at k2
     rcases List.mem_cons.1 ((hI k).2 ⟨k1,k2⟩)with e|e
     ·exact absurd e.symm hne
     ·exact e)
   hp2
   (fun k k1 k2 x hx=>by
    by_cases e:a=k
    ·subst e;exact hp1 x hx
    ·rw[getD_set_ne F a k true e]at k2
     exact hc k k1 k2 x (by simp[hx]))
  rw[hplen,hpc]at ih
  refine⟨?_,⟨ha,hna,by rw[←hpc];exact hj,by rw[hsv];omega,by rw[hsv];omega,ih.2.1⟩,by rw[List.length_cons];omega⟩
  rw[List.length_cons,pencL,leastK_is hL]
  simp only
  rw[encI,hsv,Int.toNat_natCast,hpc,ih.1]
theorem encP_idx (l : List Int) (I : List Nat) (hs : l.all scpB = true) (hlen : l.length ≤ 256) (hI : ∀ a, a ∈ I ↔ a < l.length ∧ basB (l.getD a 0) = false) (hp : I.Pairwise (fun x y : Nat => ltT l x y = true)) :
  encP l=(frontS (basS l)++encI l I (basS l).length 128 0 72 true,0)∧GoodI l I (basS l).length 128 0∧(basS l).length+I.length=l.length:=by
 have hFl:(basF l).length=l.length:=by unfold basF;simp
 obtain⟨h1,h2,h3⟩:=enc_idx l (List.all_eq_true.1 hs) hlen I (basF l) 128 0 72 true hFl (bas_ahead l) (by omega) (Nat.zero_le _)
  (fun a=>by
   rw[hI]
   constructor
   ·rintro ⟨k1,k2⟩;exact⟨k1,by rw[basF_at l a k1];exact k2⟩
   ·rintro ⟨k1,k2⟩;exact⟨k1,by rw[←basF_at l a k1];exact k2⟩)
  hp
  (fun j hj hb a ha=>by
   obtain⟨k1,k2⟩:=(hI a).1 ha
   rw[basF_at l j hj]at hb
   unfold basB at hb k2
   rw[ltT_iff,keyS_nat,keyS_nat]
   have x1:=of_decide_eq_true hb
   have x2:=of_decide_eq_false k2
   left;omega)
 have hb:(basS l)=placed l (basF l):=rfl
 rw[←hb]at h1 h2 h3
 refine⟨?_,h2,h3⟩
 unfold encP
 rw[if_neg (by omega),if_neg (by rw[hs];simp),←h1]
 congr 4
 omega
def othN (l:List Int):Nat→List Int
 | 0=>[]
 | k+1=>if basB (l.getD k 0)=true then othN l k else othN l k++[(k:Int)]
theorem othN_mem (l:List Int):∀(k:Nat) (x:Int),x∈othN l k↔∃a:Nat,a<k∧x=a∧basB (l.getD a 0)=false
 | 0,x=>by simp[othN]
 | k+1,x=>by
  rw[othN]
  have ih:=othN_mem l k x
  by_cases hb:basB (l.getD k 0)=true
  ·rw[if_pos hb,ih]
   constructor
   ·rintro ⟨a,h1,h2,h3⟩;exact⟨a,by omega,h2,h3⟩
   ·rintro ⟨a,h1,h2,h3⟩
    have:a≠k:=fun e=>by rw[e,hb]at h3;cases h3
    exact⟨a,by omega,h2,h3⟩
  ·rw[if_neg hb,List.mem_append,ih,List.mem_singleton]
   constructor
   ·rintro (⟨a,h1,h2,h3⟩|e)
    ·exact⟨a,by omega,h2,h3⟩
    ·exact⟨k,by omega,e,by simpa using hb⟩
   ·rintro ⟨a,h1,h2,h3⟩
    by_cases e:a=k
    ·right;rw[h2,e]
    ·left;exact⟨a,by omega,h2,h3⟩
theorem othN_asc (l:List Int):∀(k:Nat),(othN l k).Pairwise (· < ·)
 | 0=>List.Pairwise.nil
 | k+1=>by
  rw[othN]
  split
  ·exact othN_asc l k
  ·rw[List.pairwise_append]
   refine⟨othN_asc l k,List.pairwise_singleton _ _,fun x hx y hy=>?_⟩
   obtain⟨a,h1,h2,_⟩:=(othN_mem l k x).1 hx
   simp at hy
   omega
theorem othN_len (l:List Int):∀(k:Nat),(othN l k).length≤k
 | 0=>by simp[othN]
 | k+1=>by have:=othN_len l k;rw[othN];split<;>simp<;>omega
theorem sorted_idx (l : List Int) {d d' : Array Int} (hd : d.toList = othN l l.length) (hp : PermIn 0 d.size d d') (hs : SortedIn (ltT l) 0 d.size d') :
  ∃I:List Nat,d'.toList=I.map (fun a:Nat=>(a:Int))∧(∀a,a∈I↔a<l.length∧basB (l.getD a 0)=false)∧I.Pairwise (fun x y:Nat=>ltT l x y=true):=by
 have hperm:d'.toList.Perm (othN l l.length):=by
  have:=hp.2.2
  rw[←hd]
  rw[Array.extract_eq_self_of_le (by rw[hp.1];exact Nat.le_refl _),Array.extract_eq_self_of_le (Nat.le_refl _)]at this
  exact this
 have hnn:∀x∈d'.toList,∃a:Nat,a<l.length∧x=a∧basB (l.getD a 0)=false:=fun x hx=>(othN_mem l _ x).1 (hperm.mem_iff.1 hx)
 have hnd:d'.toList.Nodup:=hperm.nodup_iff.2 ((othN_asc l l.length).imp (fun h=>Int.ne_of_lt h))
 have hpw:d'.toList.Pairwise (fun x y=>ltT l x y=true):=by
  rw[List.pairwise_iff_getElem]
  intro i j hi hj hij
  have hi2:i<d'.size:=by simpa using hi
  have hj2:j<d'.size:=by simpa using hj
  have h1:=hs i j (Nat.zero_le _) hij (by rw[←hp.1];exact hj2)
  rw[getElem!_pos d' i hi2,getElem!_pos d' j hj2]at h1
  have hne:d'.toList[i]≠d'.toList[j]:=List.pairwise_iff_getElem.1 hnd i j hi hj hij
  simp only[Array.getElem_toList]at hne ⊢
  have:=ltT_no.1 h1
  rw[ltT_iff]
  have hne2:¬d'[i]=d'[j]:=hne
  omega
 have hmap:d'.toList=(d'.toList.map Int.toNat).map (fun a:Nat=>(a:Int)):=by
  rw[List.map_map]
  conv=>lhs;rw[←List.map_id d'.toList]
  apply List.map_congr_left
  intro x hx
  obtain⟨a,_,e,_⟩:=hnn x hx
  simp[e]
 refine⟨d'.toList.map Int.toNat,hmap,fun a=>?_,?_⟩
 ·constructor
  ·intro ha
   obtain⟨x,hx,e⟩:=List.mem_map.1 ha
   obtain⟨k,h1,h2,h3⟩:=hnn x hx
   rw[h2]at e
   simp at e
   subst e
   exact⟨h1,h3⟩
  ·rintro ⟨h1,h2⟩
   refine List.mem_map.2 ⟨(a:Int),hperm.mem_iff.2 ((othN_mem l _ _).2 ⟨a,h1,rfl,h2⟩),by simp⟩
 ·rw[hmap]at hpw
  exact List.pairwise_map.1 hpw
end Go.Proofs.YtblcoicaeeiojaaGreatDoor
