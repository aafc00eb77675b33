/- Merged. -/
import Derived.Test.YtmgfkpnghlmheaaGreatBun22
import Derived.Test.YtmgfkpnghlmheaaGreatBun24
import Derived.Test.YtmgfkpnghlmheaaGreatBun26
set_option maxHeartbeats 2000000
namespace Go.Proofs.Y
open Go.RowKit Go.Hm
theorem zg9{m:Int}{S:St}{N:Nat}{r:List Nat}(hS:S.ok)(h:lenS m S=(N,some r)):S=some (vp N++r)/\(N:Int)<=m:=by
 rcases zbp m S hS with k|⟨M,r',e,k1,_,k⟩
 ·rw[k] at h
  injection h with _ h;cases h
 ·rw[k] at h
  injection h with h1 h2;injection h2 with h2;subst h1 h2;exact⟨e,k1⟩
theorem zou{t:Int}{S:St}{s:zc7}{r:List Nat}(hS:S.ok)(h:getA t S=(s,some r)):S=some (putS [] t s++r)/\zbu t s=true:=by
 cases S with
 |none=>
  exfalso;rw[zsu (N:=0) (y:=0) (S1:=none) (S2:=none) rfl rfl,zst (N:=0) (y:=0) (S1:=none) (S2:=none) rfl rfl] at h;simp at h
 |some b=>
  obtain⟨h1,h2⟩:=z6s (hS b rfl) h;exact⟨by rw[h2],h1⟩
theorem qfz{t:Int}{S:St}(hS:S.ok):(getA t S).2.ok:=by
 cases h:(getA t S).2 with
 |none=>exact St.ok_none
 |some r=>
  have:=(zou hS (show getA t S=((getA t S).1,some r) by rw[<-h])).1;exact St.ok_some fun x hx=>hS _ this x (by simp[hx])
noncomputable def zgt(t m:Int)(S:St):zax × St:=
 ((((lenS 268435456 S).1:Int),((lenS m (lenS 268435456 S).2).1:Int),(getA t (lenS m (lenS 268435456 S).2).2).1),(getA t (lenS m (lenS 268435456 S).2).2).2)
theorem z7j{t m k:Int}{nu:Bool}{p:zax}{r:List Nat}(h:zex t nu p k=true)(hk:p.2.1<=m)(hm:m<=9223372036854775807)(hd:statData p.2.2)(hr:r.length<=140737488351232):zgt t m (some (zfl t p++r))=(p,some r):=by
 obtain⟨⟨h1,h2,h3,h4⟩,h5⟩:=pageB_most.1 h;obtain⟨a,b,s⟩:=p;dsimp only at h1 h2 h3 h4 h5 hk hd;obtain⟨a,rfl⟩:=Int.eq_ofNat_of_zero_le (show 0<=a by omega);obtain⟨b,rfl⟩:=Int.eq_ofNat_of_zero_le (show 0<=b by omega);have hs:zbu t s=true:=by rw[Bool.and_eq_true] at h5;exact h5.1
 have e1:lenS 268435456 (some (zfl t ((a:Int),(b:Int),s)++r))=(a,some (vp b++(putS [] t s++r))):=by
  have:zfl t ((a:Int),(b:Int),s)++r=vp a++(vp b++(putS [] t s++r)):=by simp[zfl]
  rw[this];exact zby _ _ (by omega) (by omega)
 have e2:lenS m (some (vp b++(putS [] t s++r)))=(b,some (putS [] t s++r)):=zby _ _ hk hm;unfold zgt;rw[e1];dsimp only;rw[e2];dsimp only;rw[qbv hs hd r hr]
theorem z2v{t m:Int}{S:St}{p:zax}{r:List Nat}(hS:S.ok)(h:zgt t m S=(p,some r)):S=some (zfl t p++r):=by
 unfold zgt at h;injection h with h1 h2;subst h1;obtain⟨N,S1,k1⟩:∃N S1,lenS 268435456 S=(N,S1):=⟨_,_,rfl⟩;have hS1:S1.ok:=by have:=zba (m:=268435456) hS;rwa[k1] at this
 rw[k1] at h2⊢;dsimp only at h2⊢;obtain⟨M,S2,k2⟩:∃N S2,lenS m S1=(N,S2):=⟨_,_,rfl⟩;have hS2:S2.ok:=by have:=zba (m:=m) hS1;rwa[k2] at this
 rw[k2] at h2⊢;dsimp only at h2⊢;have g:=(zou hS2 (show getA t S2=((getA t S2).1,some r) by rw[<-h2])).1;generalize hgs:(getA t S2).1=s at*;subst g;clear hgs h2;have e2:=(zg9 hS1 k2).1;subst e2;have e1:=(zg9 hS k1).1;rw[e1];simp[zfl]
theorem znd{t m:Int}{S:St}(hS:S.ok):(zgt t m S).2.ok:=qfz (zba (zba hS))
theorem z2w{t m:Int}{S:St}:statData (zgt t m S).1.2.2:=z6r
noncomputable def zcn(t m:Int):Nat->St->List zax × St
 |0,S=>([],S)
 |_+1,none=>([],none)
 |k+1,some l=>((zgt t m (some l)).1::(zcn t m k (zgt t m (some l)).2).1,(zcn t m k (zgt t m (some l)).2).2)
theorem zxu(t m:Int)(k:Nat):zcn t m k none=([],none):=by cases k<;> rfl
theorem zvk{t m:Int}:∀(k:Nat) {S:St},S.ok->(zcn t m k S).2.ok
 |0,_,h=>h
 |_+1,none,_=>St.ok_none
 |k+1,some _,h=>zvk k (znd h)
theorem zov{t m:Int}:∀(k:Nat) (S:St),∀p∈(zcn t m k S).1,statData p.2.2
 |0,_,p,hp=>by simp[zcn] at hp
 |_+1,none,p,hp=>by simp[zcn] at hp
 |k+1,some l,p,hp=>by
  simp only[zcn,List.mem_cons] at hp;rcases hp with rfl|hp
  ·exact z2w
  ·exact zov k _ p hp
theorem zrj{t m k:Int}{nu:Bool}(hm:m<=9223372036854775807):∀(l:List zax) (r:List Nat),(∀p∈l,zex t nu p k=true/\p.2.1<=m/\statData p.2.2)->(l.flatMap (zfl t)).length+r.length<=140737488351232->zcn t m l.length (some (l.flatMap (zfl t)++r))=(l,some r)
 | [],r,_,_=>rfl
 |p::l,r,h,hr=>by
  obtain⟨a,b,c⟩:=h p (by simp);rw[List.flatMap_cons,List.length_append] at hr;rw[List.flatMap_cons,List.append_assoc,List.length_cons];simp only[zcn];rw[z7j a b hm c (by rw[List.length_append];omega)];dsimp only;rw[zrj hm l r (fun q hq=>h q (by simp[hq])) (by omega)]
theorem zow{t m:Int}:∀(k:Nat) {S:St} {l:List zax} {r:List Nat},S.ok->zcn t m k S=(l,some r)->S=some (l.flatMap (zfl t)++r)/\l.length=k
 |0,S,l,r,_,h=>by
  simp only[zcn,Prod.mk.injEq] at h;obtain⟨rfl,rfl⟩:=h;exact⟨rfl,rfl⟩
 |k+1,none,l,r,_,h=>by
  simp only[zcn,Prod.mk.injEq] at h;cases h.2
 |k+1,some b,l,r,hS,h=>by
  simp only[zcn,Prod.mk.injEq] at h;obtain⟨rfl,h2⟩:=h;have ih:=zow k (S:=(zgt t m (some b)).2) (znd hS) (show zcn t m k (zgt t m (some b)).2=((zcn t m k (zgt t m (some b)).2).1,some r) by rw[<-h2]);obtain⟨e1,e2⟩:=ih;have e3:=z2v hS (show zgt t m (some b)=((zgt t m (some b)).1,some _) by rw[<-e1]);refine⟨?_,by rw[List.length_cons,e2]⟩;rw[List.flatMap_cons,List.append_assoc];exact e3
noncomputable def zdd(t m:Int)(S:St):List zax × St:=zcn t m (lenS m S).1 (lenS m S).2
theorem zkw{t m:Int}{S:St}(h:S.ok):(zdd t m S).2.ok:=zvk _ (zba h)
theorem z2x{t m:Int}{nu:Bool}{l:List zax}{r:List Nat}{rows:Int}(h:zdn t nu l rows)(hrm:rows<=m)(hm:m<=9223372036854775807)(hd:∀p∈l,statData p.2.2)(hr:(zgn t l).length+r.length<=140737488351232):
 zdd t m (some (zgn t l++r))=(l,some r):=by
 have hp:=zeo h.1;have h2:=h.2;have hle:∀p∈l,p.2.1<=zjd l:=by
  have key:∀l:List zax,(∀p∈l,zex t nu p 65536=true)-> ∀p∈l,p.2.1<=zjd l:=by
   intro l;induction l with
   |nil=>intro _ p hp;simp at hp
   |cons q l ih=>
    intro h p hp;have h1:=zeo (l:=l) fun z hz=>h z (by simp[hz])
    have h3:=(pageB_most.1 (h q (by simp))).1;rw[zey];rcases List.mem_cons.1 hp with rfl|hp
    ·omega
    ·have:=ih (fun z hz=>h z (by simp[hz])) p hp
     omega
  exact key l h.1
 unfold zdd zgn at*;rw[List.length_append] at hr;rw[List.append_assoc,zby l.length _ (by omega) hm];dsimp only;exact zrj (k:=65536) (nu:=nu) hm l r (fun p hpm=>⟨h.1 p hpm,by have:=hle p hpm;omega,hd p hpm⟩) (by omega)
theorem zxv{t m:Int}{S:St}{l:List zax}{r:List Nat}(hS:S.ok)(h:zdd t m S=(l,some r)):S=some (zgn t l++r):=by
 unfold zdd at h;obtain⟨N,S1,k⟩:∃N S1,lenS m S=(N,S1):=⟨_,_,rfl⟩;have hS1:S1.ok:=by have:=zba (m:=m) hS;rwa[k] at this
 rw[k] at h;obtain⟨e1,e2⟩:=zow N hS1 h;subst e1;rw[(zg9 hS k).1];simp[zgn,e2]
noncomputable def zbi(m:Int):List za1->St->List (List zax) × St
 | [],S=>([],S)
 |c::cs,S=>((zdd c.2.1 m S).1::(zbi m cs (zdd c.2.1 m S).2).1,(zbi m cs (zdd c.2.1 m S).2).2)
theorem zrk{m:Int}:∀(cs:List za1) {S:St},S.ok->(zbi m cs S).2.ok
 | [],_,h=>h
 |_::cs,_,h=>zrk cs (zkw h)
theorem zxw{t m:Int}{S:St}:∀p∈(zdd t m S).1,statData p.2.2:=zov _ _
theorem zl9{m:Int}:∀(cs:List za1) (S:St),∀l∈(zbi m cs S).1,∀p∈l,statData p.2.2
 | [],_,l,hl=>by simp[zbi] at hl
 |c::cs,S,l,hl=>by
  simp only[zbi,List.mem_cons] at hl;rcases hl with rfl|hl
  ·exact zxw
  ·exact zl9 cs _ l hl
theorem zox{m:Int}:∀(cs:List za1) (S:St),(zbi m cs S).1.length=cs.length
 | [],_=>rfl
 |c::cs,S=>by simp only[zbi,List.length_cons,zox cs]
theorem zma{m:Int}:∀(cs:List za1) {S:St} {ls:List (List zax)} {r:List Nat},S.ok->zbi m cs S=(ls,some r)->S=some (zb6 cs ls++r)
 | [],S,ls,r,_,h=>by
   simp only[zbi,Prod.mk.injEq] at h;obtain⟨rfl,rfl⟩:=h;rfl
 |c::cs,S,ls,r,hS,h=>by
  simp only[zbi,Prod.mk.injEq] at h;obtain⟨rfl,h2⟩:=h;have ih:=zma cs (S:=(zdd c.2.1 m S).2) (zkw hS) (show zbi m cs (zdd c.2.1 m S).2=((zbi m cs (zdd c.2.1 m S).2).1,some r) by rw[<-h2]);have e3:=zxv hS (show zdd c.2.1 m S=((zdd c.2.1 m S).1,some _) by rw[<-ih]);simp only[zb6,List.append_assoc];exact e3
open Go.RowKit Go.Hm
theorem zoy{m:Int}{rows:Int}(hrm:rows<=m)(hm:m<=9223372036854775807):∀(cs:List za1) (ls:List (List zax)) (r:List Nat),ls.length=cs.length->
 (∀i,i<cs.length->zdn (cs.getD i ([],0,false)).2.1 (cs.getD i ([],0,false)).2.2 (ls.getD i []) rows)->(∀l∈ls,∀p∈l,statData p.2.2)->(zb6 cs ls).length+r.length<=140737488351232->
 zbi m cs (some (zb6 cs ls++r))=(ls,some r)
 | [],[],r,_,_,_,_=>rfl
 | [],l::ls,_,h,_,_,_=>by simp at h
 |c::cs,[],_,h,_,_,_=>by simp at h
 |c::cs,l::ls,r,hlen,hok,hd,hr=>by
  simp only[zb6,List.length_append] at hr;have h0:=hok 0 (by simp);simp only[List.getD_cons_zero] at h0;simp only[zb6,List.append_assoc,zbi];rw[z2x h0 hrm hm (hd l (by simp)) (by rw[List.length_append];omega)];dsimp only;rw[zoy hrm hm cs ls r (by simpa using hlen) (fun i hi=>by have:=hok (i+1) (by simp;omega);simpa using this) (fun l' hl'=>hd l' (by simp[hl'])) (by omega)]
noncomputable def zdp(k:Int->Int)(cols:List za1)(m:Int)(S:St):za5 × St:=
 ((((lenS m S).1:Int),(zbi (k ((lenS m S).1:Int)) cols (lenS m S).2).1),(zbi (k ((lenS m S).1:Int)) cols (lenS m S).2).2)
noncomputable def zbm(k:Int->Int)(cols:List za1)(m:Int):Nat->St->List za5 × St
 |0,S=>([],S)
 |_+1,none=>([],none)
 |n+1,some l=>((zdp k cols m (some l)).1::(zbm k cols m n (zdp k cols m (some l)).2).1,(zbm k cols m n (zdp k cols m (some l)).2).2)
theorem zvl{k:Int->Int}{cols:List za1}{m:Int}{S:St}(h:S.ok):(zdp k cols m S).2.ok:=zrk _ (zba h)
theorem zxx{k:Int->Int}{cols:List za1}{m:Int}{S:St}:∀l∈(zdp k cols m S).1.2,∀p∈l,statData p.2.2:=zl9 _ _
theorem zmb(k:Int->Int)(cols:List za1)(m:Int)(n:Nat):zbm k cols m n none=([],none):=by cases n<;> rfl
theorem zin{k:Int->Int}{cols:List za1}{m:Int}:∀(n:Nat) (S:St),∀g∈(zbm k cols m n S).1,∀l∈g.2,∀p∈l,statData p.2.2
 |0,_,g,hg=>by simp[zbm] at hg
 |_+1,none,g,hg=>by simp[zbm] at hg
 |n+1,some b,g,hg=>by
  simp only[zbm,List.mem_cons] at hg;rcases hg with rfl|hg
  ·exact zxx
  ·exact zin n _ g hg
theorem zxy{k:Int->Int}{cols:List za1}{m:Int}{S:St}{g:za5}{r:List Nat}(hS:S.ok)(h:zdp k cols m S=(g,some r)):S=some (zc8 cols g++r):=by
 unfold zdp at h;obtain⟨N,S1,e⟩:∃N S1,lenS m S=(N,S1):=⟨_,_,rfl⟩;have hS1:S1.ok:=by have:=zba (m:=m) hS;rwa[e] at this
 rw[e] at h;dsimp only at h;simp only[Prod.mk.injEq] at h;obtain⟨rfl,h2⟩:=h;have e1:=zma cols hS1 (show zbi (k (N:Int)) cols S1=((zbi (k (N:Int)) cols S1).1,some r) by rw[<-h2]);rw[(zg9 hS (show lenS m S=(N,some _) by rw[e,<-e1])).1];simp[zc8]
theorem zmc{k:Int->Int}{cols:List za1}{m:Int}:∀(n:Nat) {S:St} {gs:List za5} {r:List Nat},S.ok->zbm k cols m n S=(gs,some r)->S=some (gs.flatMap (zc8 cols)++r)/\gs.length=n
 |0,S,gs,r,_,h=>by
  simp only[zbm,Prod.mk.injEq] at h;obtain⟨rfl,rfl⟩:=h;exact⟨rfl,rfl⟩
 |n+1,none,gs,r,_,h=>by
  simp only[zbm,Prod.mk.injEq] at h;cases h.2
 |n+1,some b,gs,r,hS,h=>by
  simp only[zbm,Prod.mk.injEq] at h;obtain⟨rfl,h2⟩:=h;obtain⟨e1,e2⟩:=zmc n (S:=(zdp k cols m (some b)).2) (zvl hS) (show zbm k cols m n (zdp k cols m (some b)).2=((zbm k cols m n (zdp k cols m (some b)).2).1,some r) by rw[<-h2]);have e3:=zxy hS (show zdp k cols m (some b)=((zdp k cols m (some b)).1,some _) by rw[<-e1]);refine⟨?_,by rw[List.length_cons,e2]⟩;rw[List.flatMap_cons,List.append_assoc];exact e3
theorem z2y{k:Int->Int}(hk:∀r,0<=r->r<=65536->r<=k r/\k r<=65536){cols:List za1}{m:Int}{g:za5}{r:List Nat}(h:GroupOk cols g)(hgm:g.1<=m)(hm:m<=65536)(hd:∀l∈g.2,∀p∈l,statData p.2.2)
 (hr:(zc8 cols g).length+r.length<=140737488351232):zdp k cols m (some (zc8 cols g++r))=(g,some r):=by
 obtain⟨h1,h2,h3⟩:=h;obtain⟨rows,ls⟩:=g;dsimp only at h1 h2 h3 hgm hd;obtain⟨n,rfl⟩:=Int.eq_ofNat_of_zero_le (show 0<=rows by omega);have hkn:=hk (n:Int) (by omega) (by omega);unfold zc8 at hr⊢;simp only[Int.toNat_natCast,List.length_append] at hr⊢;unfold zdp;rw[List.append_assoc,zby n _ hgm (by omega)];dsimp only;rw[zoy hkn.1 (by omega) cols ls r h2 h3 hd (by omega)]
theorem zoz{k:Int->Int}(hk:∀r,0<=r->r<=65536->r<=k r/\k r<=65536){cols:List za1}{m:Int}(hm:m<=65536):∀(gs:List za5) (r:List Nat),(∀g∈gs,GroupOk cols g/\g.1<=m/\ ∀l∈g.2,∀p∈l,statData p.2.2)->
 (gs.flatMap (zc8 cols)).length+r.length<=140737488351232->zbm k cols m gs.length (some (gs.flatMap (zc8 cols)++r))=(gs,some r)
 | [],r,_,_=>rfl
 |g::gs,r,h,hr=>by
  obtain⟨a,b,c⟩:=h g (by simp);rw[List.flatMap_cons,List.length_append] at hr;rw[List.flatMap_cons,List.append_assoc,List.length_cons];simp only[zbm];rw[z2y hk a b hm c (by rw[List.length_append];omega)];dsimp only;rw[zoz hk hm gs r (fun q hq=>h q (by simp[hq])) (by omega)]
structure IsFoot(b:List Nat)(o:Option FootS):Prop where
 sound:∀F,o=some F->zbj F/\zfm F/\zei F=b
 compl:∀F,zbj F->zfm F->zei F=b->o=some F
theorem IsFoot.uniq{b:List Nat}{o p:Option FootS}(h:IsFoot b o)(k:IsFoot b p):o=p:=by
 cases o with
 |some F=>obtain⟨a,b,c⟩:=h.sound F rfl;exact(k.compl F a b c).symm
 |none=>
  cases p with
  |none=>rfl
  |some F=>obtain⟨a,b,c⟩:=k.sound F rfl;exact h.compl F a b c
noncomputable def zo0(b:List Nat):List za1 × St:=getC (some b)
noncomputable def zlo(b:List Nat):Nat × St:=lenS 65536 (zo0 b).2
noncomputable def zta(k:Int->Int)(b:List Nat):List za5 × St:=
 zbm k (zo0 b).1 (k ((zlo b).1:Int)) (lenS (k ((zlo b).1:Int)) (zlo b).2).1 (lenS (k ((zlo b).1:Int)) (zlo b).2).2
open Classical in
noncomputable def zo1(k:Int->Int)(b:List Nat):Option FootS:=
 if(zta k b).2=some []/\zbj ⟨(zo0 b).1,((zlo b).1:Int),(zta k b).1⟩ then some ⟨(zo0 b).1,((zlo b).1:Int),(zta k b).1⟩ else none
theorem zne{cols:List za1}:∀{gs:List za5},(∀g∈gs,GroupOk cols g)->(gs.length:Int)<=(gs.map (·.1)).sum/\ ∀g∈gs,g.1<=(gs.map (·.1)).sum
 | [],_=>by simp
 |g::gs,h=>by
  have ih:=zne (gs:=gs) fun q hq=>h q (by simp[hq])
  have h1:=(h g (by simp)).1;rw[List.map_cons,List.sum_cons,List.length_cons];refine⟨by omega,fun q hq=>?_⟩;rcases List.mem_cons.1 hq with rfl|hq
  ·omega
  ·have:=ih.2 q hq
   omega
theorem qb4{k:Int->Int}(hk:∀r,0<=r->r<=65536->r<=k r/\k r<=65536){b:List Nat}(h8:∀x∈b,x<256)(hb:b.length<=140737488351232):IsFoot b (zo1 k b):=by
 constructor
 ·intro F hF
  unfold zo1 at hF;split at hF
  ·rename_i hc
   obtain⟨hc1,hc2⟩:=hc;injection hF with hF;subst hF;have hS0:St.ok (some b):=St.ok_some h8;refine⟨hc2,⟨?_,fun g hg=>zin _ _ g hg⟩,?_⟩
   ·intro c hcc z hz
    have hC2:∃r,(zo0 b).2=some r:=by
     cases h2:(zo0 b).2 with
     |some r=>exact⟨r,rfl⟩
     |none=>
      exfalso;unfold zta zlo at hc1;rw[h2,zgy] at hc1;dsimp only at hc1;rw[zgy] at hc1;dsimp only at hc1;rw[zmb] at hc1;cases hc1
    obtain⟨r,hr⟩:=hC2;obtain⟨_,e⟩:=zg8 hS0 (show getC (some b)=((zo0 b).1,some r) by rw[<-hr];rfl);injection e with e;refine h8 z ?_;rw[e,List.append_assoc];refine List.mem_append_right _ (List.mem_append_left _ ?_);refine List.mem_flatMap.2 ⟨c,hcc,?_⟩;simp only[z2q,List.mem_append];exact .inl (.inr hz)
   ·obtain⟨C,SC,eC⟩:∃C SC,zo0 b=(C,SC):=⟨_,_,rfl⟩
    obtain⟨N,SN,eN⟩:∃N SN,zlo b=(N,SN):=⟨_,_,rfl⟩;obtain⟨n,Sn,en⟩:∃n Sn,lenS (k (N:Int)) SN=(n,Sn):=⟨_,_,rfl⟩;obtain⟨gs,SG,eG⟩:∃gs SG,zta k b=(gs,SG):=⟨_,_,rfl⟩;rw[eG] at hc1;dsimp only at hc1;subst hc1;rw[eC,eN,eG];unfold zta at eG;rw[eC,eN] at eG;dsimp only at eG;rw[en] at eG;dsimp only at eG;unfold zlo at eN;rw[eC] at eN;dsimp only at eN;have ok1:SC.ok:=by
     cases SC with
     |none=>exact St.ok_none
     |some r=>
      obtain⟨_,e⟩:=zg8 hS0 (show getC (some b)=(C,some r) from eC);injection e with e;exact St.ok_some fun x hx=>h8 x (by rw[e];simp[hx])
    have ok2:SN.ok:=by have:=zba (m:=65536) ok1;rwa[eN] at this
    have ok3:Sn.ok:=by have:=zba (m:=k (N:Int)) ok2;rwa[en] at this
    obtain⟨e3,hl⟩:=zmc n ok3 eG;subst e3;have e4:=(zg9 ok2 en).1;subst e4;have e5:=(zg9 ok1 eN).1;subst e5;obtain⟨hck,e⟩:=zg8 hS0 (show getC (some b)=(C,some _) from eC);injection e with e;unfold zei putC;dsimp only;rw[if_pos hck,e,hl];simp
  ·cases hF
 ·intro F h1 h2 h3
  obtain⟨cols,rows,gs⟩:=F;obtain⟨a1,a2,a3,a4,a5⟩:=h1;obtain⟨d1,d2⟩:=h2;dsimp only at a1 a2 a3 a4 a5 d1 d2;obtain⟨r1,r2⟩:=zne a2;have hck:=(zdi cols).2 a1;obtain⟨N,rfl⟩:=Int.eq_ofNat_of_zero_le (show 0<=rows by omega);have hkN:=hk (N:Int) (by omega) a4;have hb2:b=vp cols.length++zj0 cols++(vp N++(vp gs.length++(gs.flatMap (zc8 cols)++[]))):=by rw[<-h3];unfold zei putC;dsimp only;rw[if_pos hck];simp
  have hbl:=congrArg List.length hb2;simp only[List.length_append] at hbl;have eC:zo0 b=(cols,some (vp N++(vp gs.length++(gs.flatMap (zc8 cols)++[])))):=by unfold zo0;rw[hb2];exact qb3 cols _ hck
  have eN:zlo b=(N,some (vp gs.length++(gs.flatMap (zc8 cols)++[]))):=by unfold zlo;rw[eC];exact zby N _ (by omega) (by omega)
  have en:lenS (k (N:Int)) (some (vp gs.length++(gs.flatMap (zc8 cols)++[])))=(gs.length,some (gs.flatMap (zc8 cols)++[])):=zby _ _ (by omega) (by omega);have eG:zta k b=(gs,some []):=by unfold zta;rw[eC,eN];dsimp only;rw[en];dsimp only;exact zoz hk (by omega) gs [] (fun g hg=>⟨a2 g hg,by have:=r2 g hg;omega,d2 g hg⟩) (by omega)
  unfold zo1;rw[eC,eN,eG];rw[if_pos ⟨rfl,a1,a2,a3,a4,a5⟩]
end Go.Proofs.Y
namespace Go.Hm
open Go Go.RowKit
def Grows(w w':World)(v v':Value):Prop:=w.grownBy w' v.ownBlock/\(v'.ownBlock=v.ownBlock\/ ∃g,v'.ownBlock=some g/\w.heap.size<=g)
theorem Grows.trans{a b c:World}{u v x:Value}(h:Grows a b u v)(k:Grows b c v x):Grows a c u x:=by
 obtain⟨h1,h2⟩:=h;obtain⟨k1,k2⟩:=k;refine⟨⟨k1.os.trans h1.os,k1.tape.trans h1.tape,k1.output.trans h1.output,Nat.le_trans h1.size k1.size,fun i hi hne=>?_⟩,?_⟩
 ·refine(k1.block i (Nat.lt_of_lt_of_le hi h1.size) fun e=>?_).trans (h1.block i hi hne)
  rcases h2 with h2|⟨g,h2,hg⟩
  ·rw[h2] at e;exact hne e
  ·rw[h2] at e;injection e with e;omega
 ·rcases k2 with k2|⟨g,k2,hg⟩
  ·rw[k2];exact h2
  ·exact .inr ⟨g,k2,Nat.le_trans h1.size hg⟩
theorem zdg{w w':World}{row:Option Nat}(h:New w w'):w.grownBy w' row:=⟨h.os,h.tape,h.output,h.size,fun k hk _=>h.block k hk⟩
theorem Grows.of_new{w w':World}{v:Value}(h:New w w'):Grows w w' v v:=⟨zdg h,.inl rfl⟩
theorem Grows.size{w w':World}{v v':Value}(h:Grows w w' v v'):w.heap.size<=w'.heap.size:=h.1.size
theorem Grows.blk{w w':World}{v v':Value}{g:Nat}{t e:TypeId}{cs:Array Value}{base:Nat}{xs:List Value}(h:Grows w w' v v')(o:Own w base e v xs)(B:Blk w g t cs)(hne:e≠t):Blk w' g t cs:=
 B.grown h.1 (fun he=>o.blk_ne B hne he.symm)
theorem Grows.below{w0 w w':World}{v v':Value}{base B:Nat}{e:TypeId}{xs:List Value}(h:Grows w w' v v')(o:Own w base e v xs)(b:Below B w0 w)(hB:B<=base)(hBw:B<=w.heap.size):Below B w0 w':=by refine b.trans ⟨h.1.os,h.1.tape,h.1.output,h.1.size,fun k hk=>h.1.block k (by omega) fun he=>?_⟩;have:=(o.lt k he.symm).1;omega
end Go.Hm
namespace Go.Proofs.Y
open Go.RowKit Go.Hm
def z7l(base:Nat)(v:Value)(l:List Nat)(w:World)(e:Ending)(w':World):Prop:=
 ∃A n c,e= .returned (.slice A n c)/\Go.Hm.Own w' base 5 (.slice A n c) (za2 .u8 l)/\Grows w w' v (.slice A n c)
set_option maxRecDepth 100000 in
theorem zd0{w:World}{base n c N:Nat}{A:Option Addr}{l:List Nat}(o:Go.Hm.Own w base 5 (.slice A n c) (za2 .u8 l))(hb:base<=w.heap.size)(hn:n<=100000000000000)(hN:N<=9223372036854775807):
 Calls Tryz.prog 57 #[.slice A n c,.int .i64 (N:Int)] w (z7l base (.slice A n c) (l++vp N) w):=by
 have P:=Hz (zcz none 0 0 [] N w Reads.none_ (by omega) (by omega));have V:=zap (n:=N) (by omega);have hw:IntKind.u64.wrap (N:Int)=(N:Int):=by rw[IntKind.wrap_u64];omega
 have HO:=Hz o;clear o;go_enter Tryz.func57,Tryz.ntmps57
 go_wp2_with fail
 refine P.out.mono ?_;rintro e w1 ⟨A2,n2,c2,rfl,k2,b2⟩;rw[List.nil_append] at k2;have hq:n2<=10:=by have:=k2.len;rw[zaa] at this;omega
 have o1:=HO.out.later b2;have hz:=b2.size
 go_wp2_with (refine zau elB rfl (.tmp 5) (.tmp 8) rfl (W:=w) (B:=base) o1 k2.reads rfl rfl (Below.mono b2 hb) (Nat.le_refl _) (by omega) (by omega) (by simp only[maxLen];omega) ?_
              intro A5 c5 w5 _ _ o5 g5 _ d5)
 go_ret
 exact⟨_,_,_,rfl,o5,(Grows.of_new b2).trans ⟨g5,d5⟩⟩
theorem zvm{t:Int}{p:zax}(h1:p.1.toNat<18446744073709551616)(h2:p.2.1.toNat<18446744073709551616):(zfl t p).length<=140020:=by have a:=zap (n:=p.1.toNat) h1;have b:=zap (n:=p.2.1.toNat) h2;have c:=zz2 (l:=[]) (t:=t) (s:=p.2.2);unfold zfl;simp only[List.length_append,List.length_nil] at c⊢;omega
theorem zlp{t:Int}:∀l:List zax,(∀p∈l,p.1.toNat<18446744073709551616/\p.2.1.toNat<18446744073709551616)->(l.flatMap (zfl t)).length<=l.length*140020
 | [],_=>by simp
 |p::l,h=>by
  have a:=zvm (t:=t) (h p (by simp)).1 (h p (by simp)).2;have b:=zlp (t:=t) l fun q hq=>h q (by simp[hq])
  rw[List.flatMap_cons,List.length_append,List.length_cons];omega
def zxz(p:zax):Prop:=(0<=p.1/\p.1<=9223372036854775807)/\(0<=p.2.1/\p.2.1<=9223372036854775807)/\statData p.2.2
set_option maxRecDepth 100000 in
theorem zvn{w:World}{base n c np cp:Nat}{A Ap:Option Addr}{t:Int}{l:List Nat}{ps:List zax}(o:Go.Hm.Own w base 5 (.slice A n c) (za2 .u8 l))(hb:base<=w.heap.size)(h:Reads w base 14 Ap np (recs zf7 ps))(hp:∀p∈ps,zxz p)
 (hn:n+10+np*140020<=100000000000000):
 Calls Tryz.prog 58 #[.slice A n c,.int .i64 t,.slice Ap np cp] w (z7l base (.slice A n c) (l++zgn t ps) w):=by
 obtain rfl:=h.lenPage;have hln:l.length=n:=by have:=o.len;rw[zaa] at this;exact this.symm
 have V:=zap (n:=ps.length) (by omega);have PN:=Hz (zd0 (N:=ps.length) o hb (by omega) (by omega));have hfl:=fun k=>zlp (t:=t) (ps.take k) (fun p hpm=>by have:=hp p (List.mem_of_mem_take hpm);have h1:=this.1;have h2:=this.2.1;omega)
 have HF:=Hz (fun k=>by have:=hfl k;rw[List.length_take] at this;exact this);have HR:=Hz h;have HP:=Hz hp;have HO:=Hz o;have HLN:=Hz hln;clear h hp o hln hfl;go_enter Tryz.func58,Tryz.ntmps58
 go_wp2_with fail
 refine PN.out.mono ?_;rintro e w1 ⟨A1,n1,c1,rfl,o1,g1⟩;have hb1:=g1.size;have b1:Below base w w1:=g1.below HO.out (Below.refl _ _) (Nat.le_refl _) hb;clear PN;go_wp2_with fail
 go_loopw [0,15] (fun v i wr=>∃(k:Nat) (B:Option Addr) (m d:Nat),k<=ps.length/\i= .int .i64 (k:Int)/\v= .slice B m d/\Go.Hm.Own wr base 5 (.slice B m d) (za2 .u8 (l++vp ps.length++(ps.take k).flatMap (zfl t)))/\Grows w wr (.slice A n c) (.slice B m d)/\Below base w wr) (fun _ i _=>ps.length-(intOf i).toNat)
 case atStart=>exact⟨0,A1,n1,c1,Nat.zero_le _,rfl,rfl,by simpa using o1,g1,b1⟩
 case round=>
  obtain⟨k,B,m,d,hk,rfl,rfl,o,g,b⟩:=hrel;clear o1 g1 b1 hb1;have hml:m<=n+10+k*140020:=by have h1:=o.len;rw[zaa,List.length_append,List.length_append] at h1;have h2:=HF.out k;have h3:=HLN.out;omega
  have hsz:=g.size;by_cases hlt:k<ps.length
  ·obtain⟨ad,rfl,hbd,d0,d1,d2,d3,d4,d5,d6,d7,d8,d9,d10,d11,d12,d13⟩:=(HR.out.below b).page14 hlt
   have htk:=zae ps k za9 hlt;have hpn:=HP.out _ (zal za9 hlt);have hpl:(ps.take (k+1)).flatMap (zfl t)=(ps.take k).flatMap (zfl t)++zfl t (ps.getD k za9):=by rw[htk,List.flatMap_append];simp
   rw[show zfl t (ps.getD k za9)=vp (ps.getD k za9).1.toNat++vp (ps.getD k za9).2.1.toNat++Go.Hm.putS [] t (ps.getD k za9).2.2 from rfl] at hpl;have HPL:=Hz hpl;clear htk hpl hbd;generalize ps.getD k za9=p at*;obtain⟨hp1,hp2,hp3⟩:=hpn;have SP:=fun(W:World)=>z6j (w:=W) (c:=0) (t:=t) (l:=[]) (n:=0) (A:=none) Reads.none_ (by omega) hp3
   have hspl:=zz2 (l:=[]) (t:=t) (s:=p.2.2);obtain⟨szI,rwI,nn,bb,⟨p1,p2,p3,p4,p5⟩,⟨q1,q2,q3,q4,q5⟩⟩:=p;dsimp only at hp1 hp2 hp3 SP hspl HPL d0 d1 d2 d3 d4 d5 d6 d7 d8 d9 d10 d11 d12 d13;obtain⟨sz,rfl⟩:=Int.eq_ofNat_of_zero_le hp1.1;obtain⟨rw,rfl⟩:=Int.eq_ofNat_of_zero_le hp2.1;simp only[Int.toNat_natCast] at HPL;generalize Go.Hm.putS [] t (nn,bb,(p1,p2,p3,p4,p5),(q1,q2,q3,q4,q5))=SB at*;have SP:Hid (∀W,Calls Tryz.prog 95 #[.slice none 0 0,.int .i64 t,.agg #[.int .i64 nn,.bool bb,.bool p1,.int .i64 p2,.string (zac p3),.int .i64 p4,.int .i64 p5,.bool q1,.int .i64 q2,.string (zac q3),.int .i64 q4,.int .i64 q5]] W (zc4 SB W)):=Hz SP;have V1:=zap (n:=sz) (by omega);have V2:=zap (n:=rw) (by omega);simp only[List.length_nil] at hspl;have hspl:SB.length<=140000:=by omega
   have ha:New wr (wr.alloc (.cells #[.int .i64 (sz:Int),.int .i64 (rw:Int),.int .i64 nn,.bool bb,.bool p1,.int .i64 p2,.string (zac p3),.int .i64 p4,.int .i64 p5,.bool q1,.int .i64 q2,.string (zac q3),.int .i64 q4,.int .i64 q5] 65)):=(Below.refl _ _).alloc (Nat.le_refl _) _;have BP:=Blk.new wr 65 #[.int .i64 (sz:Int),.int .i64 (rw:Int),.int .i64 nn,.bool bb,.bool p1,.int .i64 p2,.string (zac p3),.int .i64 p4,.int .i64 p5,.bool q1,.int .i64 q2,.string (zac q3),.int .i64 q4,.int .i64 q5];have o2:=o.later ha;have g2:=g.trans (Grows.of_new ha);have hsz2:=g2.size;have N1:=Hz (zd0 (N:=sz) o2 (by omega) (by omega) (by omega));obtain⟨e0,e1,e2,e3,e4,e5,e6,e7,e8,e9,e10,e11,e12,e13⟩:=zce BP;have hmq:m+140020<=100000000000000:=by omega
   clear o g ha hp3;go_wp2_with fail
   refine N1.out.mono ?_;rintro e w3 ⟨A3,n3,c3,rfl,o3,g3⟩;have BP3:=g3.blk o2 BP (by decide);have g03:=g2.trans g3;have hq3:n3<=m+10:=by have h1:=o3.len;have h2:=o2.len;rw[zaa,List.length_append] at h1;rw[zaa] at h2;omega
   have hsz3:=g03.size;have N2:=Hz (zd0 (N:=rw) o3 (by omega) (by omega) (by omega));clear N1 o2 g2 g3 BP e0 e1 e2 e3 e4 e5 e6 e7 e8 e9 e10 e11 e12 e13 d0 d1 d2 d3 d4 d5 d6 d7 d8 d9 d10 d11 d12 d13;obtain⟨e0,e1,e2,e3,e4,e5,e6,e7,e8,e9,e10,e11,e12,e13⟩:=zce BP3;go_wp2_with fail
   refine N2.out.mono ?_;rintro e w4 ⟨A4,n4,c4,rfl,o4,g4⟩;have BP4:=g4.blk o3 BP3 (by decide);have g04:=g03.trans g4;have hq4:n4<=m+20:=by have h1:=o4.len;have h2:=o3.len;rw[zaa,List.length_append] at h1;rw[zaa] at h2;omega
   have hsz4:=g04.size;clear N2 o3 g03 g4 BP3 e0 e1 e2 e3 e4 e5 e6 e7 e8 e9 e10 e11 e12 e13;obtain⟨e0,e1,e2,e3,e4,e5,e6,e7,e8,e9,e10,e11,e12,e13⟩:=zce BP4;go_wp2_with fail
   refine(SP.out _).mono ?_;rintro e w5 ⟨A5,n5,c5,rfl,k5,b5⟩;have hq5:n5<=140000:=by have:=k5.len;rw[zaa] at this;omega
   have o5:=o4.later b5;have g05:=g04.trans (Grows.of_new b5);have hsz5:=g05.size;have bb5:Below base w w5:=g05.below HO.out (Below.refl _ _) (Nat.le_refl _) hb;clear SP o4 g04 BP4 e0 e1 e2 e3 e4 e5 e6 e7 e8 e9 e10 e11 e12 e13 b5
   go_wp2_with (refine zau elB rfl (.tmp 27) (.tmp 31) rfl (W:=w) (B:=base) o5 k5.reads rfl rfl bb5 (Nat.le_refl _) (by omega) (by omega) (by simp only[maxLen];omega) ?_
                intro A6 c6 w6 _ _ o6 g6 b6 d6)
   go_roundw
   case rel=>exact⟨k+1,A6,_,c6,by omega,by go_num,rfl,by rw[HPL.out];simpa using o6,g05.trans ⟨g6,d6⟩,b6⟩
   case measure=>simp[intOf];omega
  ·obtain rfl:k=ps.length:=by omega
   rw[List.take_length] at o;have HO2:=Hz o;clear o;go_wp2_with fail
   go_ret
   refine⟨_,_,_,rfl,?_,g⟩;have:=HO2.out;rw[List.append_assoc] at this;exact this
end Go.Proofs.Y
