/- Lists of spans, plain mathematics: finding, the parts before -/
import Derived.Test.YtblcoicaeeiojaaGreatDoorSSiPmTabMem
import Derived.Test.YtblcoicaeeiojaaGreatDoorSSiPmPunSpec3
import Derived.Laws.BitsAllLaws
import Derived.Deep.RegionHeld3
import Derived.Deep.RegionWith
import Derived.Test.YtblcoicaeeiojaaGreatDoorSSiPmOwn
import Derived.Lib.Zigzag
import Derived.PlainAid
import Derived.Test.YtblcoicaeeiojaaGreatDoorSSiPmUtfD
import Derived.Lib.FrozenHead
set_option linter.unusedSimpArgs false
set_option linter.unusedVariables false
namespace Go.Proofs.YtblcoicaeeiojaaGreatDoor
theorem val_of_none {l:List Sp} {c:Int} (h:∀s∈l,¬(s.1≤c∧c≤s.2.1)):val l c=none:=by
 induction l with
 | nil=>rfl
 | cons s r ih =>
  rw[val_cons,if_neg (h s (by simp))]
  exact ih fun t ht=>h t (by simp[ht])
theorem val_split {l:List Sp} {c:Int} (k:Nat) (h:∀s∈l.take k,s.2.1<c):val l c=val (l.drop k) c:=by
 have e:=val_append (l.take k) (l.drop k) c
 rw[List.take_append_drop]at e
 rw[e,val_of_none (fun s hs hc=>by have:=h s hs;omega)]
 rfl
theorem asc_drop {l:List Sp} (k:Nat) (h:ascB 0 l=true):ascB 0 (l.drop k)=true:=by
 rw[←List.take_append_drop k l,asc_append]at h
 have h1:=ends_ge h.1
 exact asc_weak h.2 (by omega)
theorem asc_take {l:List Sp} (k:Nat) (h:ascB 0 l=true):ascB 0 (l.take k)=true:=by
 rw[←List.take_append_drop k l,asc_append]at h
 exact h.1
theorem asc_mono {lo:Int} {l:List Sp} (h:ascB lo l=true) (k:Nat) (hk:k<l.length):(∀s∈l.take k,s.2.1<(l.getD k sp0).1)∧∀s∈l.drop (k+1),(l.getD k sp0).2.1<s.1:=by
 induction l generalizing lo k with
 | nil=>simp at hk
 | cons t r ih =>
  rw[asc_cons]at h
  cases k with
  | zero =>
   refine⟨by simp,fun s hs=>?_⟩
   have:=asc_mem h.2.2.2 (s:=s) (by simpa using hs)
   simp;omega
  | succ k =>
   have hk':k<r.length:=by simpa using hk
   have:=ih h.2.2.2 k hk'
   refine⟨fun s hs=>?_,fun s hs=>?_⟩
   ·rw[List.take_succ_cons]at hs
    rcases List.mem_cons.1 hs with rfl|hs
    ·have:=asc_mem h.2.2.2 (getD_mem r k hk')
     simp only[List.getD_cons_succ];omega
    ·simpa using this.1 s hs
   ·simpa using this.2 s (by simpa using hs)
def beforeS (c:Int):List Sp→List Sp
 | []=>[]
 | s::r=>if s.1<c then(s.1,min s.2.1 (c-1),s.2.2)::beforeS c r else beforeS c r
def afterS (c:Int):List Sp→List Sp
 | []=>[]
 | s::r=>if c<s.2.1 then(max s.1 (c+1),s.2.1,s.2.2)::afterS c r else afterS c r
def limS (l:List Sp):List Sp × Int:=if 256<l.length then([],7) else(l,0)
def replS (l:List Sp) (f t:Int) (by':List Sp):List Sp × Int :=
 if validS l=false then([],1)else if f<0∨t<f∨1114111<t then([],3)else limS (joinS (beforeS f l++by'++afterS t l))
def setS (l:List Sp) (f t v:Int):List Sp × Int:=replS l f t [(f,t,v)]
end Go.Proofs.YtblcoicaeeiojaaGreatDoor
namespace Go.Proofs.YtblcoicaeeiojaaGreatDoor
open Go.RowKit
def cmpS (f t c:Int):Int:=if t<c then -1 else if c<f then 1 else 0
theorem cmpS_any (f t v c : Int) (w : World) :
  Calls Tryz.prog 282 #[.agg #[.int .i64 f,.int .i64 t,.int .i64 v],.int .i64 c] w (Gives (.int .i64 (cmpS f t c)) w):=by
 by_cases h1:t<c
 ·have HC:Hid (cmpS f t c = -1):=by unfold Hid cmpS;rw[if_pos h1]
  go_enter Tryz.func282,Tryz.ntmps282
  go_wp2
  go_ret
  rw[HC.out]
  exact⟨rfl,(Below.refl _ _).alloc (Nat.le_refl _) _⟩
 ·by_cases h2:c<f
  ·have HC:Hid (cmpS f t c=1):=by unfold Hid cmpS;rw[if_neg h1,if_pos h2]
   go_enter Tryz.func282,Tryz.ntmps282
   go_wp2
   go_ret
   rw[HC.out]
   exact⟨rfl,(Below.refl _ _).alloc (Nat.le_refl _) _⟩
  ·have HC:Hid (cmpS f t c=0):=by unfold Hid cmpS;rw[if_neg h1,if_neg h2]
   go_enter Tryz.func282,Tryz.ntmps282
   go_wp2
   go_ret
   rw[HC.out]
   exact⟨rfl,(Below.refl _ _).alloc (Nat.le_refl _) _⟩
theorem cmpS_at (f t v c z : Int) (w : World) (hz : Hid (cmpS f t c = z)) :
  Calls Tryz.prog 282 #[.agg #[.int .i64 f,.int .i64 t,.int .i64 v],.int .i64 c] w (Gives (.int .i64 z) w):=hz.out▸cmpS_any f t v c w
def FndS (l:List Sp) (c:Int) (w:World) (e:Ending) (w':World):Prop :=
 ∃i:Nat,e = .returned (.tuple #[.int .i64 i,.bool (val l c).isSome])∧i≤l.length∧((val l c).isSome=true→i<l.length∧val l c=some (l.getD i sp0).2.2)∧Below w.heap.size w w'
theorem sp_take_lt {l:List Sp} {lo c:Int} (ha:ascB lo l=true) (m:Nat) (hm:m<l.length) (h:(l.getD m sp0).2.1<c):∀s∈l.take (m+1),s.2.1<c:=by
 intro s hs
 rw[take_snoc_sp l m hm]at hs
 rcases List.mem_append.1 hs with hs|hs
 ·have:=(asc_mono ha m hm).1 s hs
  have:=asc_mem ha (getD_mem l m hm)
  omega
 ·rw[List.mem_singleton]at hs;subst hs;exact h
theorem sp_drop_ge {l:List Sp} {lo c:Int} (ha:ascB lo l=true) (m:Nat) (hm:m<l.length) (h:c≤(l.getD m sp0).2.1):∀s∈l.drop m,c≤s.2.1:=by
 intro s hs
 rw[drop_cons_sp l m hm]at hs
 rcases List.mem_cons.1 hs with rfl|hs
 ·exact h
 ·have:=(asc_mono ha m hm).2 s hs
  have:=asc_mem ha (List.mem_of_mem_drop hs)
  omega
theorem val_of_first {l : List Sp} {c : Int} (ha : ascB 0 l = true) (r : Nat) (h1 : ∀ s ∈ l.take r, s.2.1 < c) (h2 : ∀ s ∈ l.drop r, c ≤ s.2.1) :
  (r=l.length→val l c=none)∧(r<l.length→c<(l.getD r sp0).1→val l c=none)∧(r<l.length→(l.getD r sp0).1≤c→val l c=some (l.getD r sp0).2.2):=by
 refine⟨fun h=>?_,fun h hc=>?_,fun h hc=>?_⟩
 ·rw[val_split r h1,h,List.drop_length];rfl
 ·rw[val_split r h1]
  have:=asc_drop r ha
  rw[drop_cons_sp l r h,asc_cons]at this
  rw[drop_cons_sp l r h,val_cons,if_neg (by omega)]
  exact val_none this.2.2.2 (.inl (by omega))
 ·rw[val_split r h1,drop_cons_sp l r h,val_cons,if_pos ⟨hc,h2 _ (by rw[drop_cons_sp l r h];simp)⟩]
set_option maxRecDepth 100000 in
set_option maxHeartbeats 4000000 in
theorem bsS_any (p : Option Addr) (n cp : Nat) (l : List Sp) (c : Int) (w : World) (hl : l.length = n) (hn : n ≤ 17592186043904) (hin : SpIn w p l) (ha : ascB 0 l = true) :
  Calls Tryz.prog 281 #[.slice p n cp,.int .i64 c,.func (.func 282) #[] #[]] w (FndS l c w):=by
 have HI:=Lib.hid hin
 have HL:=Lib.hid hl
 have HA:=Lib.hid ha
 clear hin hl ha
 go_enter Tryz.func281,Tryz.ntmps281
 go_wp2
 go_loopw [9,10] (fun x y wr=>∃a b:Nat,a≤b∧b≤n∧x = .int .i64 a∧y = .int .i64 b∧Hid (∀s∈l.take a,s.2.1<c)∧Hid (∀s∈l.drop b,c≤s.2.1)∧Hid (Below w.heap.size w wr)) (fun x y _=>(intOf y-intOf x).toNat)
 case atStart =>
  refine⟨0,n,Nat.zero_le _,Nat.le_refl _,rfl,rfl,by simp[Hid],?_,Below.refl _ _⟩
  unfold Hid;rw[List.drop_of_length_le (Nat.le_of_eq HL.out)];simp
 case round =>
  obtain⟨a,b,hab,hbn,rfl,rfl,h1,h2,hb⟩:=hrel
  by_cases hlt:a<b
  ·obtain⟨m,hm⟩:∃m:Nat,m=(a+b) / 2:=⟨_,rfl⟩
   have hma:a≤m:=by omega
   have hmb:m<b:=by omega
   have hmn:m<l.length:=by rw[HL.out];omega
   have hmid:((a:Int)+(b:Int)) / 2=(m:Int):=by omega
   obtain⟨g,off,rfl,hc1,hc2,hc3⟩:=(HI.out.below hb.out) m hmn
   obtain⟨⟨f,t,v⟩,hs⟩:∃s,l.getD m sp0=s:=⟨_,rfl⟩
   rw[hs]at hc1 hc2 hc3
   have HS:=Lib.hid hs
   clear hs hm
   obtain⟨z,hz⟩:∃z,Hid (cmpS f t c=z):=⟨_,rfl⟩
   by_cases htc:t<c
   ·have hzn:z<0:=by rw[←hz.out,cmpS,if_pos htc];omega
    have H1:Hid (∀s∈l.take (m+1),s.2.1<c):=sp_take_lt HA.out m hmn (by rw[HS.out];exact htc)
    have hd:decide (z<0)=true:=decide_eq_true hzn
    go_wp2_with fail
    refine(cmpS_at f t v c z _ hz).mono ?_
    rintro e w2 ⟨rfl,hb2⟩
    have HB2:=Lib.hid (hb.out.trans (hb2.mono hb.out.size))
    clear hb2
    go_wp2
    go_roundw
    case rel=>exact⟨m+1,b,by omega,hbn,by go_num,rfl,H1,h2,HB2⟩
    case measure=>simp[intOf];omega
   ·have hzn:0≤z:=by rw[←hz.out,cmpS,if_neg htc];split<;>omega
    have H2:Hid (∀s∈l.drop m,c≤s.2.1):=sp_drop_ge HA.out m hmn (by rw[HS.out];simp only;omega)
    have hd:decide (z<0)=false:=decide_eq_false (by omega)
    go_wp2_with fail
    refine(cmpS_at f t v c z _ hz).mono ?_
    rintro e w2 ⟨rfl,hb2⟩
    have HB2:=Lib.hid (hb.out.trans (hb2.mono hb.out.size))
    clear hb2
    go_wp2
    go_roundw
    case rel=>exact⟨a,m,by omega,by omega,rfl,rfl,h1,H2,HB2⟩
    case measure=>simp[intOf];omega
  ·obtain rfl:a=b:=by omega
   obtain⟨f1,f2,f3⟩:=val_of_first HA.out a h1.out h2.out
   rw[HL.out]at f1 f2 f3
   by_cases hlt2:a<n
   ·obtain⟨g,off,rfl,hc1,hc2,hc3⟩:=(HI.out.below hb.out) a (by rw[HL.out];exact hlt2)
    have hto:c≤(l.getD a sp0).2.1:=h2.out _ (by rw[drop_cons_sp l a (by rw[HL.out];exact hlt2)];simp)
    obtain⟨⟨f,t,v⟩,hs⟩:∃s,l.getD a sp0=s:=⟨_,rfl⟩
    rw[hs]at hc1 hc2 hc3 f2 f3 hto
    simp only at hc1 hc2 hc3 f2 f3 hto
    have HS:=Lib.hid hs
    clear hs f1
    obtain⟨z,hz⟩:∃z,Hid (cmpS f t c=z):=⟨_,rfl⟩
    by_cases hcf:c<f
    ·have hz1:(z==0)=false:=by rw[←hz.out,cmpS,if_neg (by omega),if_pos hcf];rfl
     have HV:=Lib.hid (f2 hlt2 hcf)
     clear f2 f3
     go_wp2_with fail
     refine(cmpS_at f t v c z _ hz).mono ?_
     rintro e w2 ⟨rfl,hb2⟩
     have HB2:=Lib.hid (hb.out.trans (hb2.mono hb.out.size))
     clear hb2
     go_wp2
     go_ret2
     exact⟨a,by rw[HV.out];rfl,by rw[HL.out];omega,by rw[HV.out];simp,HB2.out⟩
    ·have hz1:(z==0)=true:=by rw[←hz.out,cmpS,if_neg (by omega),if_neg hcf];rfl
     have HV:=Lib.hid (f3 hlt2 (by omega))
     clear f2 f3
     go_wp2_with fail
     refine(cmpS_at f t v c z _ hz).mono ?_
     rintro e w2 ⟨rfl,hb2⟩
     have HB2:=Lib.hid (hb.out.trans (hb2.mono hb.out.size))
     clear hb2
     go_wp2
     go_ret2
     exact⟨a,by rw[HV.out];rfl,by rw[HL.out];omega,fun _=>⟨by rw[HL.out];exact hlt2,by rw[HV.out,HS.out]⟩,HB2.out⟩
   ·have HV:=Lib.hid (f1 (by omega))
    clear f1 f2 f3
    go_wp2
    go_ret2
    exact⟨a,by rw[HV.out];rfl,by rw[HL.out];omega,by rw[HV.out];simp,hb.out⟩
theorem findSpan_any (v0 : Value) (l : List Sp) (c : Int) (w : World) (hv : SpV w v0 l) (ha : ascB 0 l = true) :
  Calls Tryz.prog 263 #[v0,.int .i64 c] w (FndS l c w):=by
 obtain⟨p,cp,rfl,hin,hn⟩:=hv
 have HI:=Lib.hid hin
 have HA:=Lib.hid ha
 clear hin ha
 go_enter Tryz.func263,Tryz.ntmps263
 go_wp2_with fail
 refine(bsS_any p l.length cp l c _ rfl hn HI.out HA.out).mono ?_
 rintro e w1 ⟨i,rfl,hi,hf,hb⟩
 have HF:=Lib.hid hf
 have HB:=Lib.hid hb
 clear hf hb
 go_wp2
 go_ret2
 exact⟨i,rfl,hi,HF.out,HB.out⟩
theorem valueOr_any (v0 : Value) (l : List Sp) (c d : Int) (w : World) (hv : SpV w v0 l) (ha : ascB 0 l = true) :
  Calls Tryz.prog 220 #[v0,.int .i64 c,.int .i64 d] w (Gives (.int .i64 ((val l c).getD d)) w):=by
 obtain⟨p,cp,rfl,hin,hn⟩:=hv
 have HI:=Lib.hid hin
 have HA:=Lib.hid ha
 clear hin ha
 cases hval:val l c with
 | none =>
  have HV:=Lib.hid hval
  clear hval
  go_enter Tryz.func220,Tryz.ntmps220
  go_wp2_with fail
  refine(findSpan_any _ l c _ ⟨p,cp,rfl,HI.out,hn⟩ HA.out).mono ?_
  rintro e w1 ⟨i,rfl,hi,hf,hb⟩
  rw[HV.out]
  have HB:=Lib.hid hb
  clear hb hf
  simp only[Option.isSome_none]
  go_wp2
  go_ret
  exact⟨rfl,HB.out⟩
 | some z =>
  have HV:=Lib.hid hval
  clear hval
  go_enter Tryz.func220,Tryz.ntmps220
  go_wp2_with fail
  refine(findSpan_any _ l c _ ⟨p,cp,rfl,HI.out,hn⟩ HA.out).mono ?_
  rintro e w1 ⟨i,rfl,hi,hf,hb⟩
  rw[HV.out]at hf ⊢
  obtain⟨hlt,hz⟩:=hf rfl
  obtain⟨g,off,rfl,hc1,hc2,hc3⟩:=(HI.out.below hb) i hlt
  injection hz with hz
  rw[←hz]at hc3
  have HB:=Lib.hid hb
  clear hb hc1 hc2 hz
  simp only[Option.isSome_some]
  go_wp2
  go_ret
  exact⟨rfl,HB.out⟩
theorem valueOr_at (v0 : Value) (l : List Sp) (c d z : Int) (w : World) (hv : SpV w v0 l) (ha : ascB 0 l = true) (hz : Hid ((val l c).getD d = z)) :
  Calls Tryz.prog 220 #[v0,.int .i64 c,.int .i64 d] w (Gives (.int .i64 z) w):=hz.out▸valueOr_any v0 l c d w hv ha
theorem less_at (a b:Int) (B:Bool) (w:World) (hB:Hid (decide (a<b)=B)):Calls Tryz.prog 293 #[.int .i64 a,.int .i64 b] w fun e w'=>e = .returned (.bool B)∧w=w':=by
 have hb:=hB.out
 go_enter Tryz.func293,Tryz.ntmps293
 go_wp2_with (go_at_call 279;refine(isNaN_any _ _).mono ?_;rintro e w' ⟨rfl,rfl⟩)
 go_ret
 exact⟨by rw[←hb];rfl,rfl⟩
theorem sNaN_any (c:Int) (w:World):Calls Tryz.prog 294 #[.int .i64 c] w fun e w'=>e = .returned (.bool false)∧w=w':=by
 have h:(c !=c)=false:=by simp
 go_enter Tryz.func294,Tryz.ntmps294
 go_wp2
 go_ret
 exact⟨rfl,rfl⟩
def FndI (l:List Int) (c:Int) (w:World) (e:Ending) (w':World):Prop :=
 ∃i:Nat,e = .returned (.tuple #[.int .i64 i,.bool (l.contains c)])∧w=w'
set_option maxRecDepth 100000 in
set_option maxHeartbeats 4000000 in
theorem bsI_any (p : Option Addr) (n cp : Nat) (l : List Int) (c : Int) (w : World) (hl : l.length = n) (hn : n ≤ 17592186043904) (hin : IntsIn w p l) (ha : ascI 0 1114111 l = true) :
  Calls Tryz.prog 280 #[.slice p n cp,.int .i64 c] w (FndI l c w):=by
 have HI:=Lib.hid hin
 have HL:=Lib.hid hl
 have HA:=Lib.hid ha
 clear hin hl ha
 go_enter Tryz.func280,Tryz.ntmps280
 go_wp2
 go_loop [7,8] (fun x y=>∃a b:Nat,a≤b∧b≤n∧x = .int .i64 a∧y = .int .i64 b∧Hid (∀s∈l.take a,s<c)∧Hid (∀s∈l.drop b,c≤s)) (fun x y=>(intOf y-intOf x).toNat)
 case atStart =>
  refine⟨0,n,Nat.zero_le _,Nat.le_refl _,rfl,rfl,by simp[Hid],?_⟩
  unfold Hid;rw[List.drop_of_length_le (Nat.le_of_eq HL.out)];simp
 case round =>
  obtain⟨a,b,hab,hbn,rfl,rfl,h1,h2⟩:=hrel
  by_cases hlt:a<b
  ·obtain⟨m,hm⟩:∃m:Nat,m=(a+b) / 2:=⟨_,rfl⟩
   have hma:a≤m:=by omega
   have hmb:m<b:=by omega
   have hmn:m<l.length:=by rw[HL.out];omega
   have hmid:((a:Int)+(b:Int)) / 2=(m:Int):=by omega
   obtain⟨g,off,rfl,hc1⟩:=HI.out m hmn
   obtain⟨f,hs⟩:∃f,l.getD m 0=f:=⟨_,rfl⟩
   rw[hs]at hc1
   have HS:=Lib.hid hs
   clear hs hm
   by_cases htc:f<c
   ·have hz:Hid (decide (f<c)=true):=decide_eq_true htc
    have H1:Hid (∀s∈l.take (m+1),s<c):=int_take_lt HA.out m hmn (by rw[HS.out];exact htc)
    go_wp2_with fail
    refine(less_at f c true _ hz).mono ?_
    rintro e w2 ⟨rfl,rfl⟩
    go_wp2
    go_round
    case rel=>exact⟨m+1,b,by omega,hbn,by go_num,rfl,H1,h2⟩
    case measure=>simp[intOf];omega
   ·have hz:Hid (decide (f<c)=false):=decide_eq_false htc
    have H2:Hid (∀s∈l.drop m,c≤s):=int_drop_ge HA.out m hmn (by rw[HS.out];omega)
    go_wp2_with fail
    refine(less_at f c false _ hz).mono ?_
    rintro e w2 ⟨rfl,rfl⟩
    go_wp2
    go_round
    case rel=>exact⟨a,m,by omega,by omega,rfl,rfl,h1,H2⟩
    case measure=>simp[intOf];omega
  ·obtain rfl:a=b:=by omega
   obtain⟨f1,f2,f3⟩:=mem_of_first HA.out a h1.out h2.out
   rw[HL.out]at f1 f2 f3
   by_cases hlt2:a<n
   ·have hal:a<l.length:=by rw[HL.out];exact hlt2
    obtain⟨g,off,rfl,hc1⟩:=HI.out a hal
    have hto:c≤l.getD a 0:=h2.out _ (by rw[drop_cons_int _ a (by rw[HL.out];exact hlt2)];simp)
    obtain⟨f,hs⟩:∃f,l.getD a 0=f:=⟨_,rfl⟩
    rw[hs]at hc1 f2 f3 hto
    clear hs f1
    by_cases hcf:c<f
    ·have hz1:(f==c)=false:=by simp;omega
     have HV:=Lib.hid (f2 hlt2 hcf)
     clear f2 f3
     go_wp2_with (go_at_call 294;refine(sNaN_any _ _).mono ?_;rintro e w' ⟨rfl,rfl⟩)
     go_ret2
     exact⟨a,by rw[HV.out];rfl,rfl⟩
    ·have hfc:f=c:=by omega
     have hz1:(f==c)=true:=by simp;omega
     have HV:=Lib.hid (f3 hlt2 hfc)
     clear f2 f3 hfc
     go_wp2_with (go_at_call 294;refine(sNaN_any _ _).mono ?_;rintro e w' ⟨rfl,rfl⟩)
     go_ret2
     exact⟨a,by rw[HV.out];rfl,rfl⟩
   ·have HV:=Lib.hid (f1 (by omega))
    clear f1 f2 f3
    go_wp2
    go_ret2
    exact⟨a,by rw[HV.out];rfl,rfl⟩
theorem class_at (x : TV) (T : Tb) (c z : Int) (w : World) (hx : TabV w x T) (ha : ascB 0 T.cls = true) (hz : Hid (clsT T c = z)) :
  Calls Tryz.prog 155 #[x.agg,.int .i64 c] w (Gives (.int .i64 z) w):=by
 obtain⟨a0,a1,a2,a3,a4,a5,a6,a7,a8,a9,a10,a11⟩:=x
 have HX:=Lib.hid hx
 have HA:=Lib.hid ha
 clear hx ha
 simp only[TV.agg]
 go_enter Tryz.func155,Tryz.ntmps155
 go_wp2_with fail
 refine(valueOr_at a1 T.cls c 0 z _ ((HX.out.alloc _).cls) HA.out hz).mono ?_
 rintro e w1 ⟨rfl,hb⟩
 have HB:=Lib.hid (((Below.refl w.heap.size w).alloc (Nat.le_refl _) _).trans (hb.mono (by simp)))
 clear hb
 go_wp2
 go_ret
 exact⟨rfl,HB.out⟩
theorem hasDecomp_at (x : TV) (T : Tb) (c : Int) (B : Bool) (w : World) (hx : TabV w x T) (ha : ascI 0 1114111 (froms T.dec) = true) (hB : Hid (hasM T.dec c = B)) :
  Calls Tryz.prog 213 #[x.agg,.int .i64 c] w (Gives (.bool B) w):=by
 obtain⟨a0,a1,a2,a3,a4,a5,a6,a7,a8,a9,a10,a11⟩:=x
 have HX:=Lib.hid hx
 have HA:=Lib.hid ha
 clear hx ha
 simp only[TV.agg]
 go_enter Tryz.func213,Tryz.ntmps213
 go_wp2_with fail
 refine(findMp_any a9 T.dec c _ ((HX.out.alloc _).dec) HA.out).mono ?_
 rintro e w1 ⟨i,rfl,hi,_,hb⟩
 have HB:=Lib.hid (((Below.refl w.heap.size w).alloc (Nat.le_refl _) _).trans (hb.mono (by simp)))
 clear hb
 go_wp2
 go_ret
 exact⟨by rw[←hB.out];rfl,HB.out⟩
theorem excluded_at (x : TV) (T : Tb) (c : Int) (B : Bool) (w : World) (hx : TabV w x T) (ha : ascI 0 1114111 T.exc = true) (hB : Hid (excT T c = B)) :
  Calls Tryz.prog 259 #[x.agg,.int .i64 c] w (Gives (.bool B) w):=by
 obtain⟨a0,a1,a2,a3,a4,a5,a6,a7,a8,a9,a10,a11⟩:=x
 obtain⟨p,cp,he,hin,hn⟩:=hx.exc
 simp only at he
 subst he
 have HI:=Lib.hid (RowIn.alloc hin (.cells #[a0,a1,a2,a3,a4,a5,a6,a7,a8,a9,.slice p T.exc.length cp,a11] 26))
 have HA:=Lib.hid ha
 clear hx ha hin
 simp only[TV.agg]
 go_enter Tryz.func259,Tryz.ntmps259
 go_wp2_with fail
 refine(bsI_any p T.exc.length cp T.exc c _ rfl hn HI.out HA.out).mono ?_
 rintro e w1 ⟨i,rfl,rfl⟩
 have HC:Hid (T.exc.contains c=B):=hB
 rw[HC.out]
 go_wp2
 go_ret
 exact⟨rfl,(Below.refl _ _).alloc (Nat.le_refl _) _⟩
theorem isValid_at (p : Option Addr) (n c : Nat) (l : List Sp) (b : Bool) (w : World) (hl : Hid (l.length = n)) (hn : n ≤ maxLen) (hin : SpIn w p l) (hv : Hid (validS l = b)) :
  Calls Tryz.prog 252 #[.slice p n c] w fun e w'=>e = .returned (.bool b)∧Below w.heap.size w w':=by
 have:=isValid_any p n c l w hl.out hn hin
 rw[hv.out]at this
 exact this
theorem valid_asc {l:List Sp} (h:validS l=true):ascB 0 l=true:=by
 simp only[validS,Bool.and_eq_true]at h;exact h.2
theorem valid_len {l:List Sp} (h:validS l=true):l.length≤256:=by
 simp only[validS,Bool.and_eq_true,decide_eq_true_eq]at h;exact h.1
def checkS (l:List Sp) (lo hi:Int):Bool:=validS l&&l.all fun s=>decide (lo≤s.1)&&decide (s.2.1≤hi)
theorem check_ends {l : List Sp} (ha : ascB 0 l = true) (m : Nat) (hm : l.length = m + 1) (lo hi : Int) :
  (l.all fun s=>decide (lo≤s.1)&&decide (s.2.1≤hi))=(decide (lo≤(l.getD 0 sp0).1)&&decide ((l.getD m sp0).2.1≤hi)):=by
 rw[Bool.eq_iff_iff,List.all_eq_true]
 simp only[Bool.and_eq_true,decide_eq_true_eq]
 constructor
 ·intro h
  exact⟨(h _ (getD_mem l 0 (by omega))).1,(h _ (getD_mem l m (by omega))).2⟩
 ·rintro ⟨h1,h2⟩ s hs
  have e0:=drop_cons_sp l 0 (by omega)
  have h0:=asc_mem ha (getD_mem l 0 (by omega))
  have hm':=asc_mem ha (getD_mem l m (by omega))
  have em:=take_snoc_sp l m (by omega)
  rw[List.take_of_length_le (by omega)]at em
  constructor
  ·rw[List.drop_zero]at e0
   rw[e0]at hs
   rcases List.mem_cons.1 hs with rfl|hs
   ·exact h1
   ·have:=(asc_mono ha 0 (by omega)).2 s hs;omega
  ·rw[em]at hs
   rcases List.mem_append.1 hs with hs|hs
   ·have:=(asc_mono ha m (by omega)).1 s hs;omega
   ·rw[List.mem_singleton]at hs;subst hs;exact h2
set_option maxHeartbeats 1000000 in
theorem check_any (p : Option Addr) (n cp : Nat) (l : List Sp) (lo hi : Int) (w : World) (hl : l.length = n) (hn : n ≤ maxLen) (hin : SpIn w p l) :
  Calls Tryz.prog 196 #[.slice p n cp,.int .i64 lo,.int .i64 hi] w fun e w'=>e = .returned (.bool (checkS l lo hi))∧Below w.heap.size w w':=by
 have HI:=Lib.hid hin
 have HL:=Lib.hid hl
 clear hin hl
 cases hv:validS l with
 | false =>
  have HF:Hid (checkS l lo hi=false):=by unfold Hid checkS;rw[hv];rfl
  have HV:=Lib.hid hv
  clear hv
  go_enter Tryz.func196,Tryz.ntmps196
  go_wp2_with fail
  refine(isValid_at p n cp l false _ HL hn HI.out HV).mono ?_
  rintro e w1 ⟨rfl,hb1⟩
  have HB:=Lib.hid hb1
  clear hb1
  go_wp2
  go_ret
  rw[HF.out]
  exact⟨rfl,HB.out⟩
 | true =>
  have hn2:n≤256:=by rw[←HL.out];exact valid_len hv
  have hasc:=valid_asc hv
  have HV:=Lib.hid hv
  by_cases h0:n=0
  ·have HF:Hid (checkS l lo hi=true):=by
    unfold Hid checkS
    rw[hv,List.eq_nil_of_length_eq_zero (HL.out.trans h0)];rfl
   subst h0
   clear hv hasc
   go_enter Tryz.func196,Tryz.ntmps196
   go_wp2_with fail
   refine(isValid_at p 0 cp l true _ HL hn HI.out HV).mono ?_
   rintro e w1 ⟨rfl,hb1⟩
   have HB:=Lib.hid hb1
   clear hb1
   go_wp2
   go_ret
   rw[HF.out]
   exact⟨rfl,HB.out⟩
  ·obtain⟨m,rfl⟩:∃m,n=m+1:=⟨n-1,by omega⟩
   have hc:=check_ends hasc m HL.out lo hi
   have HF:Hid (checkS l lo hi=(decide (lo≤(l.getD 0 sp0).1)&&decide ((l.getD m sp0).2.1≤hi))):=by
    unfold Hid checkS;rw[hv,hc];rfl
   obtain⟨⟨f,t0,v0⟩,hs⟩:∃s,l.getD 0 sp0=s:=⟨_,rfl⟩
   obtain⟨⟨f1,t,v1⟩,hs1⟩:∃s,l.getD m sp0=s:=⟨_,rfl⟩
   rw[hs,hs1]at HF
   have HS:=Lib.hid hs
   have HS1:=Lib.hid hs1
   clear hv hasc hc hs hs1 h0
   go_enter Tryz.func196,Tryz.ntmps196
   go_wp2_with fail
   refine(isValid_at p (m+1) cp l true _ HL hn HI.out HV).mono ?_
   rintro e w1 ⟨rfl,hb1⟩
   have HB:=Lib.hid hb1
   have HI1:=Lib.hid (HI.out.below hb1)
   clear hb1
   obtain⟨g,off,rfl,hc1,hc2,hc3⟩:=HI1.out 0 (by rw[HL.out];omega)
   obtain⟨g',off',e',hd1,hd2,hd3⟩:=HI1.out m (by rw[HL.out];omega)
   injection e' with e'
   injection e' with e1 e2
   subst e1;subst e2
   rw[HS.out]at hc1
   rw[HS1.out]at hd2
   simp only[Nat.zero_mul,Nat.add_zero]at hc1
   simp only at hd2
   clear hc2 hc3 hd1 hd3
   have hne:((m:Int)+1==0)=false:=by simp;omega
   by_cases h1:lo≤f
   ·by_cases h2:t≤hi
    ·have HG:Hid (checkS l lo hi=true):=by unfold Hid;rw[HF.out];simp[h1,h2]
     go_wp2
     go_ret
     rw[HG.out]
     exact⟨rfl,HB.out⟩
    ·have HG:Hid (checkS l lo hi=false):=by unfold Hid;rw[HF.out];simp[h1,h2]
     have hd:decide (t≤hi)=false:=by simp;omega
     go_wp2
     go_ret
     rw[HG.out]
     exact⟨rfl,HB.out⟩
   ·have HG:Hid (checkS l lo hi=false):=by unfold Hid;rw[HF.out];simp[h1]
    have hd:decide (lo≤f)=false:=by simp;omega
    go_wp2
    go_ret
    rw[HG.out]
    exact⟨rfl,HB.out⟩
theorem check_at (p : Option Addr) (n c : Nat) (l : List Sp) (lo hi : Int) (B : Bool) (w : World) (hl : Hid (l.length = n)) (hn : n ≤ maxLen) (hin : SpIn w p l) (hB : Hid (checkS l lo hi = B)) :
  Calls Tryz.prog 196 #[.slice p n c,.int .i64 lo,.int .i64 hi] w fun e w'=>e = .returned (.bool B)∧Below w.heap.size w w':=by
 have:=check_any p n c l lo hi w hl.out hn hin
 rw[hB.out]at this
 exact this
theorem Tryz.info5:(Tryz.prog.info? 5).map (fun i=>(i.zero,i.size,i.bytes))=some (some (.int .u8 0),1,1):=by kernel_rfl
def OwnB (w:World) (base:Nat) (v:Value) (xs:List Int):Prop :=
 ∃g cap cur fz,v = .slice (some ⟨g,0,none⟩) xs.length cap∧base≤g∧w.heap[g]? = some (.cells cur 5 fz)∧(cap≤fz.1∨fz.2=0)∧xs.length≤cap∧cap≤maxLen∧cur.size=cap∧cur.toList.take xs.length=xs.map (.int .u8)
theorem OwnB.lt {w:World} {B:Nat} {v:Value} {xs:List Int} (h:OwnB w B v xs):∀k,v.ownBlock=some k→B≤k∧k<w.heap.size:=by
 obtain⟨g,cap,cur,fz,rfl,hb,hg,_⟩:=h
 intro k hk
 simp[Value.ownBlock]at hk
 subst hk
 exact⟨hb,(Array.getElem?_eq_some_iff.1 hg).1⟩
theorem OwnB.base {w:World} {B:Nat} {v:Value} {xs:List Int} (h:OwnB w B v xs):∀k,v.ownBlock=some k→B≤k:=fun k hk=>(h.lt k hk).1
theorem OwnB.kept {w w':World} {B:Nat} {v:Value} {xs:List Int} {row:Option Nat} (h:OwnB w B v xs) (hg:w.grownBy w' row) (hne:v.ownBlock≠row):OwnB w' B v xs:=by
 obtain⟨g,cap,cur,fz,rfl,hb,hgg,rest⟩:=h
 refine⟨g,cap,cur,fz,rfl,hb,?_,rest⟩
 rw[hg.block g (Array.getElem?_eq_some_iff.1 hgg).1 (by simpa[Value.ownBlock] using hne)]
 exact hgg
theorem OwnB.block {w:World} {B:Nat} {v:Value} {xs:List Int} (h:OwnB w B v xs):v.ownBlock≠none:=by
 obtain⟨g,cap,cur,fz,rfl,_⟩:=h
 simp[Value.ownBlock]
theorem OwnB.alloc {w:World} {B:Nat} {v:Value} {xs:List Int} (h:OwnB w B v xs) (o:Obj):OwnB (w.alloc o) B v xs:=h.kept (World.grownBy_alloc w o none) h.block
theorem OwnB.below {w w':World} {B:Nat} {v:Value} {xs:List Int} (h:OwnB w B v xs) (hb:Below w.heap.size w w'):OwnB w' B v xs:=h.kept (below_grownBy hb none) h.block
theorem OwnB.mono {w:World} {B B':Nat} {v:Value} {xs:List Int} (h:OwnB w B v xs) (hB:B'≤B):OwnB w B' v xs:=by
 obtain⟨g,cap,cur,fz,hv,hb,rest⟩:=h
 exact⟨g,cap,cur,fz,hv,Nat.le_trans hB hb,rest⟩
theorem conv_bytes_own (w:World) (s:ByteArray) (hs:s.size≤maxLen):∃v W',(convert 9 47 (.string s)).run Tryz.prog w = .ok v W'∧OwnB W' w.heap.size v (nums s)∧Below w.heap.size w W':=by
 have hge:=grownCap_ge w s.size 0 5
 have hcm:=grownCap_le_maxLen w s.size 0 5 hs
 have hsz:(bytesRow s (grownCap w s.size 0 5)).size=grownCap w s.size 0 5:=by
  have:s.data.size=s.size:=rfl
  simp[bytesRow];omega
 refine⟨_,_,run_bytes_of_string w _ _ _ s Tryz.underlying9 Tryz.underlying47 Tryz.underlying5,?_,?_⟩
 ·refine⟨w.heap.size,grownCap w s.size 0 5,bytesRow s (grownCap w s.size 0 5),_,by rw[nums_length],Nat.le_refl _,heap_alloc_new w.drew _,.inl (by rw[hsz];exact Nat.le_refl _),by rw[nums_length];exact hge,hcm,hsz,?_⟩
  have e:(bytesRow s (grownCap w s.size 0 5)).toList=(nums s).map (.int .u8)++List.replicate (grownCap w s.size 0 5-s.size) (.int .u8 0):=by
   simp[bytesRow,nums]
  rw[e]
  exact List.take_left' (by simp)
 ·exact((Below.refl _ _).drew).alloc (Nat.le_refl _) _
theorem conv_ownB {w:World} {B:Nat} {v:Value} {xs:List Int} (h:OwnB w B v xs):(convert 47 9 v).run Tryz.prog w = .ok (.string (strOfNums xs)) w:=by
 obtain⟨g,cap,cur,fz,rfl,hB,hg,hf,hn,hc,hs,ht⟩:=h
 refine run_convert_bytes_arg w _ _ Tryz.underlying47 Tryz.underlying5 g 0 xs.length cap xs rfl ?_ _ Tryz.underlying9
 intro k hk
 rw[cell_of_row w g (0+k) cur _ fz hg,Nat.zero_add]
 have e:(cur.toList.take xs.length)[k]? = (xs.map (Value.int .u8))[k]? := by rw[ht]
 rw[List.getElem?_take,if_pos (by omega)]at e
 simpa[List.getD,List.getElem?_eq_getElem (show k<xs.length by omega)] using e
theorem nextcap_near {need old:Nat} (h:old<need) (hn:need≤140737490452480):Builtin.nextslicecap need old≤281474976710656:=by
 unfold Builtin.nextslicecap
 split
 ·omega
 ·split
  ·omega
  ·rw[growBy_four]
   repeat' split
   all_goals omega
theorem run_append_byte {w : World} (ty base : Nat) (v : Value) (xs : List Int) (hown : OwnB w base v xs) (a : Addr) (c : Nat) (x : Int) (hx : w.cell? a = some (.int .u8 x)) (hlen : xs.length + 1 ≤ 140737490452480) (hbase : base ≤ w.heap.size) :
  ∃v' w',(Builtin.append_ #[47,47] ty #[v,.slice (some a) 1 c]).run Tryz.prog w = .ok v' w'∧OwnB w' base v' (xs++[x])∧w.grownBy w' v.ownBlock∧(v'.ownBlock=v.ownBlock∨v'.ownBlock=some w.heap.size):=by
 obtain⟨g,cap,cur,fz,rfl,hB,hg,hf,hn,hc,hs,ht⟩:=hown
 obtain⟨i,hi,hz0,hz1,hz2⟩:=info_parts Tryz.info5
 have hnews:∀j u,[Value.int .u8 x][j]? = some u→w.cell? (a.add j)=some u:=by
  intro j u hu
  cases j with
  | zero=>rw[Addr.add_zero'];rw[hx,←hu];rfl
  | succ j=>simp at hu
 by_cases hroom:xs.length+1≤cap
 ·have hfz:w.frozen? ⟨g,xs.length,none⟩=false:=by
   obtain⟨lo,hh⟩:=fz
   simp only[World.frozen?,hg,Bool.and_eq_false_iff,decide_eq_false_iff_not]
   simp only at hf
   omega
  have hl:xs.length<cur.size:=by omega
  have hcell:w.cell? ⟨g,xs.length,none⟩=some cur[xs.length]:=by simp[World.cell?,hg,hl]
  have hst:(store ⟨g,xs.length,none⟩ (.int .u8 x)).run Tryz.prog w = .ok () (w.setRow g (cur.setIfInBounds xs.length (.int .u8 x))):=by
   rw[run_store Tryz.prog w _ (.int .u8 x) _ rfl,hcell]
   simp[hfz,setCell_eq_setRow w g xs.length cur 5 fz (.int .u8 x) hg]
  have hff:=run_firstCells_some (P:=Tryz.prog) w 1 1 a 1 c [.int .u8 x] (by simp) hnews
  refine⟨.slice (some ⟨g,0,none⟩) (xs.length+1) cap,w.setRow g (cur.setIfInBounds xs.length (.int .u8 x)),?_,⟨g,cap,_,fz,by simp,hB,setRow_heap w g cur _ _ _ hg,hf,by simpa using hroom,hc,by simpa using hs,?_⟩,⟨rfl,rfl,rfl,by simp,fun k _ hk=>setRow_other w g k _ (fun e=>hk (by simp[Value.ownBlock,e]))⟩,.inl rfl⟩
  ·simp[Builtin.append_,run_underlying Tryz.underlying47,sizeOf,typeInfo,hi,hz1,Builtin.lenOf,hroom,hff,Addr.add_lit,storeCells,hst]
  ·have hl2:xs.length<cur.toList.length:=by simpa using hl
   rw[Array.toList_setIfInBounds,List.length_append,List.length_singleton,List.take_succ_eq_append_getElem (by simpa using hl2),List.take_set_of_le (Nat.le_refl _),ht]
   simp
 ·have hold:∀j u,(xs.map (Value.int .u8))[j]? = some u→w.cell? ((⟨g,0,none⟩:Addr).add j)=some u:=by
   intro j u hu
   rw[Addr.add_lit,cell_of_row w g (0+j) cur _ fz hg,Nat.zero_add]
   rw[←ht,List.getElem?_take]at hu
   split at hu
   ·simpa using hu
   ·cases hu
  have hsm:((xs.length+1:Nat):Int)≤9223372036854775807:=by omega
  have hfit:Builtin.nextslicecap (xs.length+1) cap*i.bytes≤281474976710656:=by rw[hz2,Nat.mul_one];exact nextcap_near (by omega) hlen
  have hr:=run_append_grow (P:=Tryz.prog) w 47 ty 5 i _ Tryz.underlying47 hi hz0 ⟨g,0,none⟩ xs.length cap (xs.map (.int .u8)) (by simp[hz1]) hold a 1 c [.int .u8 x] (by simp[hz1]) hnews (by omega) hsm hfit
  have hge:=grownCap_ge w (xs.length+1) cap 5
  have hcm:=grownCap_le_maxLen w (xs.length+1) cap 5 (by unfold maxLen;omega)
  refine⟨_,_,hr,⟨w.heap.size,_,_,_,by simp,hbase,heap_alloc_new w.drew _,.inr rfl,by simpa using hge,hcm,?_,?_⟩,⟨rfl,rfl,rfl,by simp,fun k hk _=>heap_alloc_old w.drew _ hk⟩,.inr rfl⟩
  ·have:(Value.cells (.int .u8 0)).size=1:=rfl
   simp only[Array.size_append,List.size_toArray,List.length_map,List.length_singleton,size_zeroCells,this]
   omega
  ·simp only[Array.toList_append,List.append_assoc]
   rw[←List.append_assoc]
   have e:xs.map (Value.int .u8)++[Value.int .u8 x]=(xs++[x]).map (Value.int .u8):=by simp
   rw[e]
   exact List.take_left' (by simp)
theorem wpList_append_byte {W : World} {ops : Array Oper} {rest : List Oper} {o : Oper} {a : Act} {Q : Exit → Act → World → Prop} (hgd : o.guard = none) (s x : Operand)
  (ho:o.op = .call { callee := .builtin .append,args:=#[s,x],argTypes:=#[47,47]})
  (base:Nat) (v:Value) (xs:List Int) (hs:a.eval s=v) (hown:OwnB W base v xs)
  (y:Int) (c g:Nat) (hx:a.eval x = .slice (some ⟨g,0,none⟩) 1 c) (hg:g=W.heap.size)
  (hlen:xs.length+1≤140737490452480) (hbase:base≤W.heap.size)
  (h:∀v' w',OwnB w' base v' (xs++[y])→W.grownBy w' v.ownBlock→(∀b,b<W.heap.size→v.ownBlock≠some b→v'.ownBlock≠some b)→wpList Tryz.prog ops Q rest (a.put o.dst v') w'):wpList Tryz.prog ops Q (o::rest) a (W.alloc (.cells #[.int .u8 y] 5)):=by
 subst hg
 obtain⟨v',w',hr,h2,h3,h4⟩:=run_append_byte (w:=W.alloc (.cells #[.int .u8 y] 5)) o.type base v xs (hown.alloc _) ⟨W.heap.size,0,none⟩ c y (by simp[World.cell?_alloc_new]) hlen (by simp;omega)
 refine wpList_plain hgd fun K hK=>?_
 unfold Oper.wp execOp
 simp only[ho,resolve,invoke,builtin,Sem.run_bind,Sem.run_pure,Result.andThen_ok,List.map_toArray,List.map_cons,List.map_nil,hs,hx,hr]
 have hA:=World.grownBy_alloc W (.cells #[.int .u8 y] 5) v.ownBlock
 refine hK _ _ (h v' w' h2 ⟨h3.os.trans hA.os,h3.tape.trans hA.tape,h3.output.trans hA.output,Nat.le_trans hA.size h3.size,fun i hi hne=>(h3.block i (Nat.lt_of_lt_of_le hi hA.size) hne).trans (hA.block i hi hne)⟩ ?_)
 intro b hb hne
 rcases h4 with e|e
 ·rw[e];exact hne
 ·rw[e];simp;omega
end Go.Proofs.YtblcoicaeeiojaaGreatDoor
