/- Merged. -/
import Derived.Test.YtbahbnbpmfgimaaGreatDoorBun45
import Derived.Test.YtbahbnbpmfgimaaGreatDoorBun47
set_option maxHeartbeats 1000000
namespace Go.Proofs.Y
open Go.RowKit Go.Hm
structure WrOk(L:List zbb)(r:Int)(D:List (List zab))(gr pr:Int):Prop where
 cols:zph L
 names:∀c∈L,∀z∈c.1,z<256
 len:D.length=L.length
 rows:0<=r/\r<=65536
 all:∀l∈D,((l.length:Nat):Int)=r
 data:∀l∈D,∀c∈l,zaq c
 conf:(1<=gr/\gr<=65536)/\1<=pr/\pr<=65536
theorem qah{D:List (List zab)}(h:∀l∈D,∀c∈l,zaq c)(c:Nat)(s:Int × Int):∀y∈zb7 D c s,zaq y:=by
 intro y hy;unfold zb7 at hy;have hy:=qpa (qnh hy);by_cases hc:c<D.length
 ·exact h _ (zas [] hc) y hy
 ·rw[qoa,qoj (by omega)] at hy
  cases hy
theorem z4z{t:Int}{l:List zab}(h:∀y∈l,zaq y):statData (zmk t l):=by
 have hs:=zn0 t l;cases hb:(zmk t l).2.1 with
 |true=>exact⟨h _ (hs.least hb).1.1,h _ (hs.most hb).1.1⟩
 |false=>
  obtain⟨e1,e2⟩:=hs.none hb;have h0:zaq za8:=by unfold zaq za8;simp
  exact⟨by rw[e1];exact h0,by rw[e2];exact h0⟩
theorem z40{L:List zbb}{r:Int}{E:List Int}{D:List (List zab)}{gr pr:Int}(h:WrOk L r D gr pr):zfb (zek L r E D gr pr):=by refine⟨h.names,fun g hg l hl p hp=>?_⟩;obtain⟨s,_,rfl⟩:=qmn.1 hg;obtain⟨c,_,rfl⟩:=qmn.1 hl;obtain⟨q,_,rfl⟩:=qmn.1 hp;exact z4z (qah h.data c q)
theorem z41{L:List zbb}{r:Int}{DD:List zex}{gr pr:Int}{E:List Int}{b:List Nat}(h:WrOk L r (DD.map (·.2.2)) gr pr)(hw:zgu L r DD gr pr E=(0,b))(h0:zgk L r DD=0)(h1:zeg gr pr E L=0):
 zbu (zek L r E (DD.map (·.2.2)) gr pr)/\zfb (zek L r E (DD.map (·.2.2)) gr pr)/\b=zfn (zqn L E (DD.map (·.2.2)) pr (zdp 0 r gr)).flatten.flatten.flatten (zeu (zek L r E (DD.map (·.2.2)) gr pr))/\
 (zeu (zek L r E (DD.map (·.2.2)) gr pr)).length<=1073741824/\openO b=some (zek L r E (DD.map (·.2.2)) gr pr,zeu (zek L r E (DD.map (·.2.2)) gr pr))/\
 zfi (zek L r E (DD.map (·.2.2)) gr pr).groups (b.drop 4)=zqn L E (DD.map (·.2.2)) pr (zdp 0 r gr)/\(∀s∈zdp 0 r gr,∀c,c<L.length-> ∀q∈zdp s.1 s.2 pr,(zia L E (DD.map (·.2.2)) c q).1=0)/\(∀x∈b,x<256)/\b.length<=2147483660:=by
 unfold zgu at hw;rw[if_neg (by rw[h0];simp),if_neg (by rw[h1];simp)] at hw;generalize hD:DD.map (·.2.2)=D at*;split at hw
 ·cases hw
 ·rename_i x hx
  split at hw
  ·cases hw
  ·rename_i own ho
   split at hw
   ·cases hw
   ·rename_i hbig
    unfold zq2 at ho;split at ho
    ·rename_i hF
     injection ho with ho;subst ho;injection hw with _ hb;have hok:=zzm _ x hx;obtain⟨k1,k2⟩:=zwz (zdp 0 r gr) hx;rw[qnk] at k1;rw[k1] at hb hok;have hDa:=z40 (E:=E) h;have h8:=z4v hF hDa;have hcut:=fun R=>z99 (L:=L) (E:=E) (D:=D) (pr:=pr) (zdp 0 r gr) R
     have hop:openO b=some (zek L r E D gr pr,zeu (zek L r E D gr pr)):=by rw[<-hb];exact zr4 hF hDa (hcut []).2 h8 (by omega)
     have hcg:zfi (zek L r E D gr pr).groups (b.drop 4)=zqn L E D pr (zdp 0 r gr):=by
      have e:b.drop 4=(zqn L E D pr (zdp 0 r gr)).flatten.flatten.flatten++(zeu (zek L r E D gr pr)++(low (zeu (zek L r E D gr pr)).length 4++tailL)):=by rw[<-hb];unfold zfn;exact qpm (show headL_film.length=4 from rfl)
      rw[e];exact(hcut _).1
     have hb8:∀z∈b,z<256:=by
      rw[<-hb];intro z hz;unfold zfn at hz;rcases qny.1 hz with hz|hz
      ·simp[headL_film] at hz;omega
      rcases qny.1 hz with hz|hz
      ·obtain⟨p,hp,hz⟩:=qq1.1 hz
       obtain⟨ch,hch,hp⟩:=qq1.1 hp;obtain⟨g,hg,hch⟩:=qq1.1 hch;obtain⟨s,hs,rfl⟩:=qmn.1 hg;obtain⟨c,hc,rfl⟩:=qmn.1 hch;obtain⟨q,hq,rfl⟩:=qmn.1 hp;exact qkf (qah h.data c q) (show pgE _ _ _ _=(0,pgF L E D c q) from Prod.ext (k2 s hs c (qpi.1 hc) q hq) rfl) z hz
      rcases qny.1 hz with hz|hz
      ·exact h8 z hz
      rcases qny.1 hz with hz|hz
      ·exact zg1 _ _ z hz
      ·simp[tailL] at hz;omega
     refine⟨hF,hDa,hb.symm,by omega,hop,hcg,k2,hb8,?_⟩;rw[<-hb,zhg];omega
    ·cases ho
open Go.RowKit Go.Hm
section
variable{L:List zbb}{E:List Int}{D:List (List zab)}{pr:Int}
theorem qf7{c:Nat}:∀(l:List (Int × Int)) (y:List (List Nat) × Int),(∀q∈l,(zia L E D c q).1=0/\(zia L E D c q).2.length<=268435456)->y.2+((l.map (pgF L E D c)).flatten.length:Int)<=1073741824-> ∃x,chW L E D c (some y) l=some x/\x.2=y.2+((l.map (pgF L E D c)).flatten.length:Int)
 | [],y,_,_=>⟨y,rfl,by simp⟩
 |q::l,y,h,hz=>by
  have h0:=h q (by simp);rw[qnc,qq0,qni] at hz;have e0:(pgF L E D c q).length=(zia L E D c q).2.length:=rfl;have e:chW L E D c (some y) (q::l)=chW L E D c (pgW L E D c (some y) q) l:=rfl;have e2:pgW L E D c (some y) q=some (y.1++[(zia L E D c q).2],y.2+(zia L E D c q).2.length):=by unfold pgW;dsimp only;rw[if_pos ⟨h0.1,h0.2,by omega⟩]
  obtain⟨x,h1,h2⟩:=qf7 l (y.1++[(zia L E D c q).2],y.2+(zia L E D c q).2.length) (fun q' hq'=>h q' (by simp[hq'])) (by dsimp only;omega);refine⟨x,by rw[e,e2,h1],?_⟩;rw[h2,qnc,qq0,qni];dsimp only;omega
theorem qf8{s:Int × Int}:∀(k:Nat) (y:List (List Nat) × Int),(∀c,c<k-> ∀q∈zdp s.1 s.2 pr,(zia L E D c q).1=0/\(zia L E D c q).2.length<=268435456)->y.2+((zt3 L E D (zdp s.1 s.2 pr) (List.range k)).flatten.flatten.length:Int)<=1073741824->
 ∃x,gpW L E D pr s (some y) k=some x/\x.2=y.2+((zt3 L E D (zdp s.1 s.2 pr) (List.range k)).flatten.flatten.length:Int)
 |0,y,_,_=>⟨y,rfl,by simp[zt3]⟩
 |k+1,y,h,hz=>by
  have e:(zt3 L E D (zdp s.1 s.2 pr) (List.range (k+1))).flatten.flatten.length=(zt3 L E D (zdp s.1 s.2 pr) (List.range k)).flatten.flatten.length+((zdp s.1 s.2 pr).map (pgF L E D k)).flatten.length:=by rw[qqc];simp[zt3]
  obtain⟨x,h1,h2⟩:=qf8 k y (fun c hc=>h c (by omega)) (by omega);obtain⟨z,h3,h4⟩:=qf7 (zdp s.1 s.2 pr) x (h k (by omega)) (by omega);exact⟨z,by rw[gpW,h1,h3],by omega⟩
theorem qai:∀(l:List (Int × Int)) (y:List (List Nat) × Int),(∀s∈l,∀c,c<L.length-> ∀q∈zdp s.1 s.2 pr,(zia L E D c q).1=0/\(zia L E D c q).2.length<=268435456)->y.2+((zqn L E D pr l).flatten.flatten.flatten.length:Int)<=1073741824->
 ∃x,l.foldl (grW L E D pr) (some y)=some x
 | [],y,_,_=>⟨y,rfl⟩
 |s::l,y,h,hz=>by
  have e:(zqn L E D pr (s::l)).flatten.flatten.flatten.length=(zt3 L E D (zdp s.1 s.2 pr) (List.range L.length)).flatten.flatten.length+(zqn L E D pr l).flatten.flatten.flatten.length:=by simp[zqn]
  obtain⟨x,h1,h2⟩:=qf8 L.length y (h s (by simp)) (by omega);obtain⟨z,h3⟩:=qai l x (fun s' hs'=>h s' (by simp[hs'])) (by omega);exact⟨z,by rw[qqk,grW,h1,h3]⟩
end
theorem zw2{f t:Nat}{s:Int}{q:Int × Int}(h:q∈zdp (f:Int) (t:Int) s):∃a b:Nat,q=((a:Int),(b:Int))/\f<=a/\a<b/\b<=t:=by
 unfold zdp at h;split at h
 ·cases h
 ·rename_i hc
  unfold zgq at h;obtain⟨i,hi,rfl⟩:=qmn.1 h;rw[qpi] at hi;have:=(zgr (f:=(f:Int).toNat) (t:=(t:Int).toNat) (s:=s.toNat) (by omega) i).1 hi;refine⟨_,_,rfl,?_,?_,?_⟩
  ·omega
  ·rw[qoo];omega
  ·omega
theorem zw3(l:List zab):∀(S:List (Int × Int)),(∀q∈S,∃a b:Nat,q=((a:Int),(b:Int))/\a<=b/\b<=l.length)->(S.map fun q=>q.2-q.1).sum=(((S.map fun q=>(l.drop q.1.toNat).take (q.2-q.1).toNat).flatten.length:Nat):Int)
 | [],_=>rfl
 |q::S,h=>by
  obtain⟨a,b,rfl,h1,h2⟩:=h _ (List.mem_cons_self);have ih:=zw3 l S fun q hq=>h q (by simp[hq])
  rw[qnc,qp2,ih,qnc,qq0,qni,qmq,qmp];dsimp only;omega
theorem z13{f t:Nat}{s:Int}(h:f<=t)(ht:t<=65536)(hs:1<=s):((zdp (f:Int) (t:Int) s).map fun q=>q.2-q.1).sum=(t:Int)-(f:Int):=by
 rw[zw3 (List.replicate t zqu) _ (fun q hq=>by obtain⟨a,b,e,_,h2,h3⟩:=z12 hq;exact⟨a,b,e,h2,by simpa using h3⟩),qaa _ h ht hs,qmq,qmp,qo9]
 omega
theorem zw4{D:List (List zab)}{c a b:Nat}(h1:a<=b)(h2:b<=(D.getD c []).length):(zb7 D c ((a:Int),(b:Int))).length=b-a:=by unfold zb7;rw[qmq,qmp];dsimp only;omega
theorem qez{L:List zbb}{r:Int}{E:List Int}{D:List (List zab)}{gr pr:Int}(h:WrOk L r D gr pr)(hr:∀c,c<L.length-> ∀y∈D.getD c [],zaf y (L.getD c zfv).2.1 (L.getD c zfv).2.2=true)
 (hp:∀s∈zdp 0 r gr,∀c,c<L.length-> ∀q∈zdp s.1 s.2 pr,(zia L E D c q).1=0/\(zia L E D c q).2.length<=268435456)(hz:(zqn L E D pr (zdp 0 r gr)).flatten.flatten.flatten.length<=1073741824):zbu (zek L r E D gr pr):=by
 obtain⟨n,rfl⟩:=qon h.rows.1;have hn:=h.rows.2;have hlc:∀c,c<L.length->(D.getD c []).length=n:=fun c hc=>by have:=h.all _ (zas [] (show c<D.length by rw[h.len];exact hc));omega
 have hG:∀g∈(zek L n E D gr pr).groups,GroupOk L g:=by
  intro g hg;obtain⟨s,hs,rfl⟩:=qmn.1 hg;obtain⟨a,b,rfl,h1,h2,h3⟩:=zw2 (f:=0) hs;refine⟨by unfold zdr;dsimp only;omega,by unfold zdr;simp,fun c hc=>?_⟩;have e:(zdr L E D pr ((a:Int),(b:Int))).2.getD c []=(zdp (a:Int) (b:Int) pr).map (zd0 L E D c):=by
   unfold zdr;dsimp only;rw[zbq _ _ 0 [] (by rw[qph];exact hc)];have:(List.range L.length).getD c 0=c:=by rw[qoa,List.getElem?_range hc];rfl
   rw[this]
  rw[e];constructor
  ·intro p hpm
   obtain⟨q,hq,rfl⟩:=qmn.1 hpm;have hpq:=hp _ hs c hc q hq;obtain⟨x,y,rfl,k1,k2,k3⟩:=zw2 hq;have hcl:=zw4 (D:=D) (c:=c) (show x<=y by omega) (by rw[hlc c hc];omega);obtain⟨_,_,_,_,d,_,hb⟩:=z1a (show pgE _ _ _ _=(0,(zia L E D c ((x:Int),(y:Int))).2) from Prod.ext hpq.1 rfl);have hb1:1<=(zia L E D c ((x:Int),(y:Int))).2.length:=by rw[hb,qnu];omega
   have hst:=zn0 (L.getD c zfv).2.1 (zb7 D c ((x:Int),(y:Int)));have hri:∀z∈zb7 D c ((x:Int),(y:Int)),zaf z (L.getD c zfv).2.1 (L.getD c zfv).2.2=true:=fun z hz=>hr c hc z (by unfold zb7 at hz;exact qpa (qnh hz))
   have htc:=h.cols.2.1 _ (zas zfv hc);have hn1:=hst.nulls;have hn2:=ziu (zb7 D c ((x:Int),(y:Int)));refine pageB_most.2 ⟨⟨?_,?_,?_,?_⟩,?_⟩
   ·unfold zd0;dsimp only;omega
   ·unfold zd0;dsimp only;omega
   ·unfold zd0;dsimp only;omega
   ·unfold zd0;dsimp only;omega
   ·have hR:=hst.right (fun z hz=>zr7 (hri z hz)) ⟨htc.2.2.1,htc.2.2.2⟩ (by omega)
    unfold zd0;dsimp only;rw[show zcc (L.getD c ([],0,false)).2.1 (zmk (L.getD c zfv).2.1 (zb7 D c ((x:Int),(y:Int))))=true from hR];simp only[qp7,qoe,decide_eq_true_eq,beq_iff_eq,qo3];refine⟨by omega,?_,?_⟩
    ·cases hb2:(zmk (L.getD c zfv).2.1 (zb7 D c ((x:Int),(y:Int)))).2.1 with
     |true=>
      obtain⟨z,hz,hz0⟩:=hst.has.1 hb2;have:nullsL (zb7 D c ((x:Int),(y:Int)))<(zb7 D c ((x:Int),(y:Int))).length:=by unfold nullsL;exact qrr.2 ⟨z,hz,by simpa using hz0⟩
      rw[eq_comm,decide_eq_true_eq];omega
     |false=>
      rw[eq_comm,decide_eq_false_iff_not];intro hlt;have:nullsL (zb7 D c ((x:Int),(y:Int)))<(zb7 D c ((x:Int),(y:Int))).length:=by omega
      unfold nullsL at this;obtain⟨z,hz,hz0⟩:=qrr.1 this;have:=hst.has.2 ⟨z,hz,by simpa using hz0⟩;rw[hb2] at this;cases this
    ·show(L.getD c zfv).2.2=true\/_
     cases hnu:(L.getD c zfv).2.2 with
     |true=>exact .inl rfl
     |false=>
      right;have:nullsL (zb7 D c ((x:Int),(y:Int)))=0:=by unfold nullsL;rw[qqr,List.filter_eq_nil_iff];intro z hz hz0;have hzr:=hri z hz;rw[hnu] at hzr;unfold zaf at hzr;rw[if_pos hz0] at hzr;simp at hzr
      omega
  ·have e2:∀S:List (Int × Int),(∀q∈S,∃x y:Nat,q=((x:Int),(y:Int))/\x<=y/\y<=n)->zmb (S.map (zd0 L E D c))=(S.map fun q=>q.2-q.1).sum:=by
    intro S;induction S with
    |nil=>intro _;rfl
    |cons q S ih=>
     intro hS;obtain⟨x,y,rfl,k1,k2⟩:=hS _ (List.mem_cons_self);have hcl:=zw4 (D:=D) (c:=c) k1 (by rw[hlc c hc];exact k2);rw[qnc,zhc,ih fun q hq=>hS q (by simp[hq]),qnc,qp2];unfold zd0;dsimp only;omega
   rw[e2 _ (fun q hq=>by obtain⟨x,y,e,k1,k2,k3⟩:=z12 hq;exact⟨x,y,e,k2,by omega⟩),z13 (by omega) (by omega) h.conf.2.1]
   rfl
 refine⟨h.cols,hG,?_,hn,?_⟩
 ·have:=z13 (f:=0) (t:=n) (s:=gr) (by omega) (by omega) h.conf.1.1
  show(((zdp 0 (n:Int) gr).map (zdr L E D pr)).map (·.1)).sum=(n:Int);rw[qoc];have e3:((fun x:za4=>x.1) ∘ zdr L E D pr)=fun q:Int × Int=>q.2-q.1:=rfl
  rw[e3];simpa using this
 ·have hc:=(z99 (L:=L) (E:=E) (D:=D) (pr:=pr) (zdp 0 (n:Int) gr) []).2
  have:=zy2 (G:=(zek L n E D gr pr).groups) (fun g hg l hl p hpp=>by obtain⟨s,hs,rfl⟩:=qmn.1 hg;obtain⟨c,_,rfl⟩:=qmn.1 hl;obtain⟨q,_,rfl⟩:=qmn.1 hpp;unfold zd0;dsimp only;omega)
  rw[<-this];have e4:(zek L n E D gr pr).groups=(zdp 0 (n:Int) gr).map (zdr L E D pr):=rfl;rw[e4,<-hc];omega
theorem qe0{L:List zbb}{r:Int}{DD:List zex}{gr pr:Int}{E:List Int}(h:WrOk L r (DD.map (·.2.2)) gr pr)(h0:zgk L r DD=0)(h1:zeg gr pr E L=0)(hr:∀c,c<L.length-> ∀y∈(DD.map (·.2.2)).getD c [],zaf y (L.getD c zfv).2.1 (L.getD c zfv).2.2=true)
 (hp:∀s∈zdp 0 r gr,∀c,c<L.length-> ∀q∈zdp s.1 s.2 pr,(zia L E (DD.map (·.2.2)) c q).1=0/\(zia L E (DD.map (·.2.2)) c q).2.length<=268435456)(hz:(zqn L E (DD.map (·.2.2)) pr (zdp 0 r gr)).flatten.flatten.flatten.length<=1073741824)
 (hf:(zeu (zek L r E (DD.map (·.2.2)) gr pr)).length<=1073741824):∃b,zgu L r DD gr pr E=(0,b):=by
 have hF:=qez h hr hp hz;obtain⟨x,hx⟩:=qai (zdp 0 r gr) ([],0) hp (by dsimp only;omega);unfold zgu;rw[if_neg (by rw[h0];simp),if_neg (by rw[h1];simp)];have hx:z1q L E (DD.map (·.2.2)) pr (zdp 0 r gr)=some x:=hx;rw[hx];dsimp only;have he:zq2 (zek L r E (DD.map (·.2.2)) gr pr)=some (zeu (zek L r E (DD.map (·.2.2)) gr pr)):=by unfold zq2;rw[if_pos hF]
 rw[he];dsimp only;rw[if_neg (by omega)];exact⟨_,rfl⟩
open Go.RowKit Go.Hm
theorem z42{t:Int}{K m:Nat}{l:List za6}(h:∀p∈l,(zfu t p).length<=K)(hm:l.length<=m)(h6:m<=65536):(zgt t l).length<=10+m*K:=by
 have key:∀l:List za6,(∀p∈l,(zfu t p).length<=K)->(l.flatMap (zfu t)).length<=l.length*K:=by
  intro l;induction l with
  |nil=>intro _;simp
  |cons p l ih=>
   intro h;have h1:=h p (by simp);have h2:=ih fun q hq=>h q (by simp[hq])
   rw[qp1,qni,qnu,qoo];omega
 have h1:=key l h;have h2:=zap (n:=l.length) (by omega);have h3:l.length*K<=m*K:=qms _ hm;unfold zgt;rw[qni];omega
theorem zp7{K m:Nat}(h6:m<=65536):∀(cs:List zbb) (C:List (List za6)),(∀t,∀l∈C,∀p∈l,(zfu t p).length<=K)->(∀l∈C,l.length<=m)->(zcd cs C).length<=C.length*(10+m*K)
 | [],C,_,_=>by simp[zcd]
 |c::cs,[],_,_=>by simp[zcd]
 |c::cs,l::C,h,hm=>by
  have h1:=z42 (t:=c.2.1) (K:=K) (m:=m) (fun p hp=>h _ l (by simp) p hp) (hm l (by simp)) h6;have h2:=zp7 h6 cs C (fun t l' hl'=>h t l' (by simp[hl'])) (fun l' hl'=>hm l' (by simp[hl']));rw[zcd,qni,qnu,qoo];omega
theorem qaj{F:FootS}{K m n:Nat}(h:∀t,∀g∈F.groups,∀l∈g.2,∀p∈l,(zfu t p).length<=K)(hn:∀g∈F.groups,g.2.length<=n)(hm:∀g∈F.groups,∀l∈g.2,l.length<=m)(h6:m<=65536)
 (hr:F.rows.toNat<18446744073709551616)(hg:F.groups.length<18446744073709551616:=by decide)(hg1:∀g∈F.groups,g.1.toNat<18446744073709551616:=by decide):(zeu F).length<=(putC [] F.cols).length+20+F.groups.length*(10+n*(10+m*K)):=by
 have key:∀G:List za4,(∀g∈G,g∈F.groups)->(G.flatMap (zc4 F.cols)).length<=G.length*(10+n*(10+m*K)):=by
  intro G;induction G with
  |nil=>intro _;simp
  |cons g G ih=>
   intro hG;have hgF:=hG g (by simp);have h1:=zp7 h6 F.cols g.2 (fun t l hl=>h t g hgF l hl) (hm g hgF);have h2:=ih fun q hq=>hG q (by simp[hq])
   have h3:g.2.length*(10+m*K)<=n*(10+m*K):=qms _ (hn g hgF);have h4:=zap (n:=g.1.toNat) (hg1 g hgF);have h5:(zc4 F.cols g).length=(vp g.1.toNat).length+(zcd F.cols g.2).length:=by unfold zc4;rw[qni]
   rw[qp1,qni,qnu,qoo];omega
 have h1:=key F.groups (fun g hg=>hg);have h2:=zap hr;have h3:=zap hg;unfold zeu;simp only[qni];omega
open Go Go.RowKit Go.Hm
theorem z15{F:FootS}{b:List Nat}(h:zbu F)(hb:szG F.groups+4<=b.length){k j q:Nat}(hk:k<F.groups.length)(hj:j<F.cols.length)(hq:q<(zaw F.groups k j).length):
 zw5 b F (k:Int) (j:Int) (q:Int)=some ((((zfi F.groups (b.drop 4)).getD k []).getD j []).getD q []):=by
 have hgl:(F.groups.getD k zak).2.length=F.cols.length:=(zct h hk).2.1;have p4:=(zkb h hk hj hq).2.2.2;have e:=z31 h hk hj (q:=q);have a1:=ztw hk;have a2:=qfx F.groups (k+1);have a3:=ztv (C:=(F.groups.getD k zak).2) (j:=j) (by omega);have a4:=qfw (F.groups.getD k zak).2 (j+1);have a5:szL ((zaw F.groups k j).take (q+1))=_:=z1e hq;have a6:=qfv (zaw F.groups k j) (q+1);have a7:szL ((F.groups.getD k zak).2.getD j [])=szL (zaw F.groups k j):=rfl;unfold zw5;rw[z14 h hk hj hq,e];simp only[qng];rw[if_neg (by omega),if_neg (by omega)];congr 1
 rw[ziw _ _ _ hk,cutC_at _ _ _ (by omega)];rw[show(F.groups.getD k zak).2.getD j []=zaw F.groups k j from rfl,zy1 _ _ _ hq,qpc,qpc,qpc];congr 2
 omega
theorem qe3:zgu [] 0 [] 1 1 []=(0,[72,89,80,79,0,0,0,3,0,0,0,79,80,89,72]):=by
 have e1:zgk [] 0 []=0:=by decide
 have e2:zeg 1 1 [] []=0:=by decide
 have e3:zdp 0 0 1=[]:=by decide
 have e4:zq2 fz=some [0,0,0]:=by unfold zq2;rw[if_pos qkl,zn1]
 unfold zgu;rw[if_neg (by rw[e1];simp),if_neg (by rw[e2];simp)];have e5:zek [] 0 [] (([]:List zex).map (·.2.2)) 1 1=fz:=by unfold zek;rw[e3];rfl
 rw[e3,e5,e4];rfl
open Go Go.RowKit Go.Hm
def znd(C:List (List (List (List Nat))))(k j q:Nat):List (List Nat):=(C.take k).flatten.flatten++(((C.getD k []).take j).flatten++((C.getD k []).getD j []).take q)
section
variable{C:List (List (List (List Nat)))}{k j q:Nat}
theorem z43(hk:k<C.length)(hj:j<(C.getD k []).length):∃R,C.flatten.flatten=znd C k j q++R:=by
 have h1:C=C.take k++(C.getD k []::C.drop (k+1)):=by
  conv=>lhs;rw[<-qpl k C]
  congr 1
  rw[qoa,qmm hk];exact qm4 hk
 have h2:C.getD k []=(C.getD k []).take j++((C.getD k []).getD j []::(C.getD k []).drop (j+1)):=by
  conv=>lhs;rw[<-qpl j (C.getD k [])]
  congr 1
  rw[qoa (l:=C.getD k []),qmm hj];exact qm4 hj
 unfold znd;generalize C.getD k []=X at*;generalize X.getD j []=Y at*;refine⟨Y.drop q++(X.drop (j+1)).flatten++(C.drop (k+1)).flatten.flatten,?_⟩;conv=>lhs;rw[h1,h2]
 simp only[qp9,qq0,qm5];rw[<-qm5 (Y.take q) (Y.drop q),qpl]
theorem z44(hk:k<C.length)(hj:j<(C.getD k []).length):(znd C k j q).flatten.length<=C.flatten.flatten.flatten.length:=by obtain⟨R,e⟩:=z43 (q:=q) hk hj;rw[e,qp9,qni];omega
end
theorem zw6{L:List zbb}{r:Int}{D:List zex}{gr pr:Int}{E:List Int}(h:(zgu L r D gr pr E).1=0):zgk L r D=0/\zeg gr pr E L=0:=by
 unfold zgu at h;by_cases h1:zgk L r D=0
 ·rw[if_neg (by rw[h1];simp)] at h
  by_cases h2:zeg gr pr E L=0
  ·exact⟨h1,h2⟩
  ·rw[if_pos h2] at h;exact absurd h h2
 ·rw[if_pos h1] at h;exact absurd h h1
structure Filed(L:List zbb)(r:Int)(b:List Nat)(F:FootS)(C:List (List (List (List Nat))))(own:List Nat):Prop where
 foot:zbu F
 data:zfb F
 cols:F.cols=L
 rows:F.rows=r
 opened:openO b=some (F,own)
 pages:zfi F.groups (b.drop 4)=C
 whole:b=zfn C.flatten.flatten.flatten own
 own_:own=zeu F
 few:own.length<=1073741824
 bytes:∀x∈b,x<256
 short:b.length<=2147483660
 size:szG F.groups+own.length+12=b.length
theorem qkp{L:List zbb}{r:Int}{DD:List zex}{gr pr:Int}{E:List Int}{b:List Nat}(h:WrOk L r (DD.map (·.2.2)) gr pr)(hw:zgu L r DD gr pr E=(0,b)):
 Filed L r b (zek L r E (DD.map (·.2.2)) gr pr) (zqn L E (DD.map (·.2.2)) pr (zdp 0 r gr)) (zeu (zek L r E (DD.map (·.2.2)) gr pr))/\ ∀s∈zdp 0 r gr,∀c,c<L.length-> ∀q∈zdp s.1 s.2 pr,(zia L E (DD.map (·.2.2)) c q).1=0:=by
 obtain⟨h0,h1⟩:=zw6 (L:=L) (r:=r) (D:=DD) (gr:=gr) (pr:=pr) (E:=E) (by rw[hw]);obtain⟨t1,t2,t3,t4,t5,t6,hp,t8,t9⟩:=z41 h hw h0 h1;exact⟨⟨t1,t2,rfl,rfl,t5,t6,t3,rfl,t4,t8,t9,(zny t8 (by omega) t5).2.2.2.2.1⟩,hp⟩
section
variable{w:World}{Ac:Option Addr}{cc:Nat}{L:List zbb}{r:Int}{Ad:Option Addr}{DD:List zex}{gr pr:Int}{E:List Int}{b:List Nat}
end
structure PageAt(b:List Nat)(F:FootS)(C:List (List (List (List Nat)))):Prop where
 groups:C.length=F.groups.length
 chunks:∀k,k<F.groups.length->(C.getD k []).length=F.cols.length/\(F.groups.getD k zak).2.length=F.cols.length
 pages:∀k j,k<F.groups.length->j<F.cols.length->((C.getD k []).getD j []).length=(zaw F.groups k j).length
 page:∀k j q,k<F.groups.length->j<F.cols.length->q<(zaw F.groups k j).length->
  zw5 b F (k:Int) (j:Int) (q:Int)=some (((C.getD k []).getD j []).getD q [])/\((((C.getD k []).getD j []).getD q []).length:Int)=((zaw F.groups k j).getD q zbv).1
 few:C.flatten.flatten.length<=4194304
 bytes:C.flatten.flatten.flatten.length<=2147483660
theorem Filed.at_{L:List zbb}{r:Int}{b:List Nat}{F:FootS}{C:List (List (List (List Nat)))}{own:List Nat}(h:Filed L r b F C own):PageAt b F C:=by
 have hs:4+szG F.groups<=b.length:=by have:=h.size;omega
 have hp:=h.pages;refine⟨by rw[<-hp,zjk],fun k hk=>⟨?_,(zct h.foot hk).2.1⟩,fun k j hk hj=>?_,fun k j q hk hj hq=>?_,?_,?_⟩
 ·rw[<-hp,ziw _ _ k hk,zlm]
  exact(zct h.foot hk).2.1
 ·have hj2:j<(F.groups.getD k zak).2.length:=by rw[(zct h.foot hk).2.1];exact hj
  rw[<-hp,ziw _ _ k hk,Go.Hm.cutC_at _ _ j hj2,zjj];rfl
 ·have hj2:j<(F.groups.getD k zak).2.length:=by rw[(zct h.foot hk).2.1];exact hj
  rw[<-hp];refine⟨z15 h.foot (by omega) hk hj hq,?_⟩;obtain⟨a1,a2,a3⟩:=zwh hs hk hj2 hq;have hz:=zlo h.foot _ (zas zak hk) _ (zas [] hj2) _ (show(zaw F.groups k j).getD q zbv∈zaw F.groups k j from zas zbv hq);rw[a3,qmq,qmp];omega
 ·have:=z4u h.foot b
  unfold z97 at this;rwa[hp] at this
 ·have h1:=congrArg List.length h.whole
  rw[zhg] at h1;have:=h.short;omega
structure PageBy(b:List Nat)(L:List zbb)(r:Int)(Gs:List GrD)(C:List (List (List (List Nat)))):Prop where
 groups:C.length=Gs.length
 chunks:∀k,k<Gs.length->(C.getD k []).length=L.length/\(Gs.getD k grZ).2.2.2.length=L.length
 pages:∀k j,k<Gs.length->j<L.length->((C.getD k []).getD j []).length=((Gs.getD k grZ).2.2.2.getD j chZ).2.2.length
 page:∀k j q,k<Gs.length->j<L.length->q<((Gs.getD k grZ).2.2.2.getD j chZ).2.2.length->
  zw5 b (zbx L r Gs) (k:Int) (j:Int) (q:Int)=some (((C.getD k []).getD j []).getD q [])/\((((C.getD k []).getD j []).getD q []).length:Int)=(((Gs.getD k grZ).2.2.2.getD j chZ).2.2.getD q zbv).1
 few:C.flatten.flatten.length<=4194304
 bytes:C.flatten.flatten.flatten.length<=2147483660
theorem PageAt.by_{b:List Nat}{L:List zbb}{r:Int}{Gs:List GrD}{C:List (List (List (List Nat)))}(h:PageAt b (zbx L r Gs) C):PageBy b L r Gs C:=by
 obtain⟨h1,h2,h3,h4,h5,h6⟩:=h;unfold zbx at h1 h2 h3;dsimp only at h1 h2 h3;simp only[qpg] at h1 h2 h3;have hk2:∀k,k<Gs.length->(Gs.getD k grZ).2.2.2.length=L.length:=fun k hk=>by have:=(h2 k hk).2;rw[zbq grP Gs grZ zak hk] at this;unfold grP at this;simpa using this
 have hpa:∀k j,k<Gs.length->j<L.length->zaw (Gs.map grP) k j=((Gs.getD k grZ).2.2.2.getD j chZ).2.2:=fun k j hk hj=>by unfold zaw;rw[zbq grP Gs grZ zak hk];unfold grP;dsimp only;rw[zbq (fun x:ChD=>x.2.2) _ chZ [] (by rw[hk2 k hk];exact hj)]
 refine⟨h1,fun k hk=>⟨(h2 k hk).1,hk2 k hk⟩,fun k j hk hj=>by rw[h3 k j hk hj,hpa k j hk hj],fun k j q hk hj hq=>?_,h5,h6⟩;have:=h4 k j q (by unfold zbx;simpa using hk) hj (by unfold zbx;dsimp only;rw[hpa k j hk hj];exact hq);have e:zaw (zbx L r Gs).groups k j=((Gs.getD k grZ).2.2.2.getD j chZ).2.2:=hpa k j hk hj;rw[e] at this;exact this
structure PgSt(C:List (List (List (List Nat))))(k j q B:Nat)(S:List Nat)(A:Option Addr)(c:Nat)(X:List ziy)(w:World):Prop where
 str:S=headL_film++(znd C k j q).flatten
 row:Go.Hm.Own w B 24 (.slice A X.length c) (recs zie X)
 pages:∀d∈X,TR w 5 d.1 d.2.2.length (zan .u8 d.2.2)
 map:X.map byP=znd C k j q
theorem PgSt.later{C:List (List (List (List Nat)))}{k j q B:Nat}{S:List Nat}{A:Option Addr}{c:Nat}{X:List ziy}{w w':World}(h:PgSt C k j q B S A c X w)(hb:New w w'):PgSt C k j q B S A c X w':=
 ⟨h.str,h.row.later hb,fun d hd=>(h.pages d hd).below hb,h.map⟩
theorem PgSt.turn{C:List (List (List (List Nat)))}{k j q k' j' q' B:Nat}{S:List Nat}{A:Option Addr}{c:Nat}{X:List ziy}{w:World}(h:PgSt C k j q B S A c X w)(e:znd C k j q=znd C k' j' q'):PgSt C k' j' q' B S A c X w:=
 ⟨by rw[<-e];exact h.str,h.row,h.pages,by rw[<-e];exact h.map⟩
theorem PgSt.size{C:List (List (List (List Nat)))}{k j q B:Nat}{S:List Nat}{A:Option Addr}{c:Nat}{X:List ziy}{w:World}(h:PgSt C k j q B S A c X w)(hk:k<C.length)(hj:j<(C.getD k []).length):(zae S).size<=4+C.flatten.flatten.flatten.length:=by have h1:=z44 (q:=q) hk hj;rw[zbt,h.str,qni];have:headL_film.length=4:=rfl;omega
theorem PgSt.len{C:List (List (List (List Nat)))}{k j q B:Nat}{S:List Nat}{A:Option Addr}{c:Nat}{X:List ziy}{w:World}(h:PgSt C k j q B S A c X w):X.length=(znd C k j q).length:=by rw[<-h.map,qpg]
open Go Go.RowKit Go.Hm
theorem qij{nu:Bool}(c:zab)(h:zaf c 0 nu=true):(pgE 0 nu 0 [c]).1=0/\(pgE 0 nu 0 [c]).2.length<=20:=by
 have hr:∀y∈zdv [c],zaf y 0 false=true:=zrs (nu:=nu) (fun y hy=>by simp at hy;subst hy;exact h);have hk:zk4 0 (zdv [c])=true:=plOk_iff.2 ⟨⟨by omega,by omega,by have:=ztq [c];simp at this;omega⟩,hr⟩;have hv:zfp 0 0 (zdv [c])=some (plB 0 (zdv [c])):=by unfold zfp;rw[if_pos rfl];unfold plO;rw[if_pos hk]
 have hl:(plB 0 (zdv [c])).length<=8:=by unfold plB;rw[if_neg (by omega)];unfold zdv;cases h0:c.1<;> simp[List.filter,h0,plE,zbg]
 have e:encOf 0 0 [c]=0:=by unfold encOf;rw[if_neg (by omega)]
 unfold pgE;rw[if_neg (by simp[fitsV]),if_neg (by simp),if_pos (by simpa using h),e,hv];refine⟨rfl,?_⟩;have hs:(zcx [c]).length<=1:=by unfold zcx;rw[zbg,zlg];simp
 cases nu<;> simp[zf2]<;> omega
def s1L:List zbb:=[([97],0,false)]
def s1D:List (List zab):=[[qbi 5]]
theorem qik:zph s1L:=(zeh s1L).1 (by decide)
theorem zse:zdp 0 1 1=[(0,1)]:=by decide
theorem qkq{DD:List zex}(h:DD.map (·.2.2)=s1D):zgk s1L 1 DD=0:=by
 match DD,h with
 | [(A1,c1,l1)],h=>
   simp only[qnc,qnd,s1D,qmg,and_true] at h;obtain rfl:=h;have e1:zcy s1L=0:=by decide
   have e2:zc6 s1L.length 1 [(A1,c1,[qbi 5])]=0:=rfl;have e3:zjo [(A1,c1,[qbi 5])] s1L=true:=rfl;unfold zgk;rw[e1,e2,e3];rfl
theorem qil:zeg 1 1 [0] s1L=0:=by decide
theorem qkr:WrOk s1L 1 s1D 1 1:=by refine⟨qik,by decide,rfl,by decide,by decide,?_,by decide⟩;intro l hl c hc;simp only[s1D,qof,qqg,or_false] at hl;subst hl;simp only[qof,qqg,or_false] at hc;subst hc;unfold zaq;simp[qbi]
theorem s1_page:(zia s1L [0] s1D 0 (0,1)).1=0/\(zia s1L [0] s1D 0 (0,1)).2.length<=20:=qij (nu:=false) (qbi 5) (by decide)
theorem qks{s q:Int × Int}{c:Nat}(hs:s∈zdp 0 1 1)(hc:c<s1L.length)(hq:q∈zdp s.1 s.2 1):c=0/\q=(0,1):=by rw[zse] at hs;obtain rfl:=qnz.1 hs;dsimp only at hq;rw[zse] at hq;obtain rfl:=qnz.1 hq;have:s1L.length=1:=rfl;exact⟨by omega,rfl⟩
theorem z16:zqn s1L [0] s1D 1 (zdp 0 1 1)=[[[pgF s1L [0] s1D 0 (0,1)]]]:=by have e1:List.range s1L.length=[0]:=rfl;simp only[zqn,zt3,e1,zse,qnc,qnd]
theorem qal:(zeu (zek s1L 1 [0] s1D 1 1)).length<=500000:=by
 have hk:=qaj (F:=zek s1L 1 [0] s1D 1 1) (K:=140020) (m:=1) (n:=1) (fun t g hg l hl p hp=>?_) ?_ ?_ (by decide) (by decide)
 ·have e1:(putC [] (zek s1L 1 [0] s1D 1 1).cols).length<=20:=by
   show(putC [] s1L).length<=20;rw[putC,if_pos (by decide)];simp[s1L,zkk,z3y,zf2]
  have e2:(zek s1L 1 [0] s1D 1 1).groups.length=1:=by show((zdp 0 1 1).map _).length=1;rw[zse];rfl
  rw[e2] at hk;omega
 ·obtain⟨s,hs,rfl⟩:=qmn.1 hg
  obtain⟨c,hc,rfl⟩:=qmn.1 hl;obtain⟨q,hq,rfl⟩:=qmn.1 hp;obtain⟨rfl,rfl⟩:=qks hs (qpi.1 hc) hq;have:=s1_page.2;refine zwo ?_ ?_
  ·unfold zd0
   dsimp only;omega
  ·unfold zd0
   dsimp only;simp[zb7,s1D]
 ·intro g hg
  obtain⟨s,hs,rfl⟩:=qmn.1 hg;unfold zdr;dsimp only;rw[qpg,qph];exact qmt _
 ·intro g hg l hl
  obtain⟨s,hs,rfl⟩:=qmn.1 hg;obtain⟨c,hc,rfl⟩:=qmn.1 hl;rw[zse] at hs;obtain rfl:=qnz.1 hs;rw[qpg];show(zdp 0 1 1).length<=1;rw[zse];exact qmt _
theorem qe4{DD:List zex}(h:DD.map (·.2.2)=s1D):∃b F own p,zgu s1L 1 DD 1 1 [0]=(0,b)/\Filed s1L 1 b F [[[p]]] own/\p.length<=20/\own.length<=500000:=by
 have hg:∃b,zgu s1L 1 DD 1 1 [0]=(0,b):=by
  refine qe0 (by rw[h];exact qkr) (qkq h) qil ?_ ?_ ?_ ?_
  ·rw[h];decide
  ·rw[h]
   intro s hs c hc q hq;obtain⟨rfl,rfl⟩:=qks hs hc hq;exact⟨s1_page.1,by have:=s1_page.2;omega⟩
  ·rw[h,z16]
   have:=s1_page.2;unfold pgF;simp;omega
  ·rw[h]
   exact qml qal (by decide)
 obtain⟨b,hb⟩:=hg;have hf:=(qkp (by rw[h];exact qkr) hb).1;rw[h,z16] at hf;exact⟨b,_,_,_,hb,hf,s1_page.2,qal⟩
open Go Go.RowKit Go.Hm
def emB:List Nat:=[72,89,80,79,0,0,0,3,0,0,0,79,80,89,72]
theorem qlp:zfb fz:=⟨by simp[fz],by simp[fz]⟩
theorem qiu:openO emB=some (fz,[0,0,0]):=by have h:=zr4 (F:=fz) (body:=[]) qkl qlp (by simp[fz,szG]) (by rw[zn1];decide) (by rw[zn1];decide);rw[zn1] at h;exact h
theorem qa0(s d:List Nat):lvD s [d]=[zb6 s (leafP 0 1 d)]:=rfl
theorem zzv(s d:List Nat):ovD s [d]=zb6 s (leafP 0 1 d):=by unfold ovD;rw[qa0,zii]
theorem zzw{s:List Nat}(d:List Nat)(hs:1<=s.length/\s.length<=255):ovF s [d]=[zcu s (leafP 0 1 d)]:=by unfold ovF;rw[qa0,zii];have e:zbe s (leafP 0 1 d)=some (zcu s (leafP 0 1 d)):=if_pos ⟨hs.1,hs.2,by rw[zh1];simp⟩;unfold lvF;show([0].flatMap fun(k:Nat)=>(zbe s (leafP (k:Int) 1 ([d].getD k []))).toList)++[]=_;simp only[qp1,qqi,qm3];show(zbe s (leafP 0 1 d)).toList=_;rw[e];rfl
def dg1(p:List Nat):List Nat:=zb6 zbn (leafP 0 1 p)
def dg2(p:List Nat):List Nat:=zb6 zew (leafP 0 1 (dg1 p))
def dg3(p:List Nat):List Nat:=zb6 zep (leafP 0 1 (dg2 p))
theorem zkh(p:List Nat):zh4 (dg1 p):=zb3 _ _
theorem zki(p:List Nat):zh4 (dg2 p):=zb3 _ _
theorem zzx(p:List Nat):zh4 (dg3 p):=zb3 _ _
theorem qkx(p:List Nat):z5k [[[p]]]=dg3 p:=by unfold z5k zqq;simp only[qnc,qnd];rw[zzv,zzv,zzv];rfl
theorem qa1(p:List Nat):(qbe [[[p]]]).length=3:=by unfold qbe zrf;simp only[qnc,qnd,qp1,qqi,qm3];rw[zzw _ ⟨by decide,by decide⟩,zzw _ ⟨by decide,by decide⟩,zzw _ ⟨by decide,by decide⟩];rfl
theorem qiv{L:List zbb}{r:Int}{b:List Nat}{F:FootS}{p own:List Nat}(h:Filed L r b F [[[p]]] own):zy9 F.groups b own=z6u own (dg3 p)/\(zwd F.groups b own).length=4:=by unfold zy9 zwd;rw[h.pages,qkx];refine⟨rfl,?_⟩;rw[qni,qa1];rfl
theorem qiw:zy9 fz.groups emB [0,0,0]=zb6 ze3 [[0,0,0],zb6 zbw []]/\(zwd fz.groups emB [0,0,0]).length<=2:=by have e:zfi fz.groups (emB.drop 4)=[]:=rfl;unfold zy9 zwd;rw[e];unfold z5k qbe ovD ovF;have e2:lvD zep (([]:List (List (List (List Nat)))).map zqq)=[]:=rfl;rw[e2,zih];exact⟨rfl,by simp[zqr,lvF]⟩
theorem qix:openO []=none:=by unfold openO zpg;rw[if_pos (.inl (by simp))]
theorem qky:zza emB/\qbj emB=0/\z5n emB=zb6 ze3 [[0,0,0],zb6 zbw []]/\(zxo emB).length<=2:=by obtain⟨e1,e2,e3⟩:=qaw qiu;obtain⟨r1,r2⟩:=qiw;exact⟨zkd (by decide) (by decide),e1,by rw[e2,r1],by rw[e3];exact r2⟩
theorem qkz:zza []/\qbj []=2/\z5n []=List.replicate 32 0/\zxo []=[]:=by obtain⟨e1,e2,e3⟩:=z2d qix;exact⟨zkd (by simp) (by simp),e2,e1,e3⟩
theorem qk0{L:List zbb}{r:Int}{b:List Nat}{F:FootS}{p own:List Nat}(h:Filed L r b F [[[p]]] own)(hp:p.length<=20)(ho:own.length<=500000):zza b/\qbj b=0/\z5n b=z6u own (dg3 p)/\(zxo b).length=4:=by
 obtain⟨e1,e2,e3⟩:=qaw h.opened;obtain⟨r1,r2⟩:=qiv h;have hl:b.length<=1000000:=by rw[h.whole,zhg];simp;omega
 exact⟨zkd h.bytes hl,e1,by rw[e2,r1],by rw[e3];exact r2⟩
theorem qfe{b:List Nat}{F:FootS}{p own:List Nat}(h:Filed s1L 1 b F [[[p]]] own):zw5 b F 0 0 0=some p:=by
 have hk:F.groups.length=1:=by have:=zjk F.groups (b.drop 4);rw[h.pages] at this;exact this.symm
 have hl:=zps F.groups (b.drop 4);rw[h.pages] at hl;have hq:(zaw F.groups 0 0).length=1:=by
  obtain⟨g,hG⟩:=List.length_eq_one_iff.1 hk;unfold zaw;rw[hG] at hl⊢;simp only[qnc,qnd,qmg,and_true] at hl;have hg2:g.2.length=1:=by have:=congrArg List.length hl;simpa using this.symm
  obtain⟨l,hg⟩:=List.length_eq_one_iff.1 hg2;rw[hg] at hl;simp only[qnc,qnd,qmg,and_true] at hl;show((g.2).getD 0 []).length=1;rw[hg];exact hl.symm
 have:=z15 (b:=b) h.foot (by have:=h.size;omega) (k:=0) (j:=0) (q:=0) (by omega) (by rw[h.cols];decide) (by omega);rw[h.pages] at this;exact this
def qbk(n:Nat):List zex:=[(some ⟨n+1,0,none⟩,1,[qbi 5])]
theorem qiy(n:Nat):(qbk n).map (·.2.2)=s1D:=rfl
theorem qff(W:World):TabIn W none 0 [] none []:=⟨Reads.none_,by simp,by simp,by simp,Reads.none_,by simp,by intro d hd;cases hd⟩
theorem qiz(n:Nat):∀d∈qbk n,∀y∈d.2.2,CellFine y:=by intro d hd y hy;simp only[qbk,qof,qqg,or_false] at hd;subst hd;simp only[qof,qqg,or_false] at hy;subst hy;unfold CellFine;simp[qbi]
set_option maxRecDepth 100000 in
theorem qlq(w:World):TabIn ((((w.alloc (.cells #[.string ⟨#[97]⟩,.int .i64 0,.bool false] 71)).alloc (.cells #[.bool false,.int .i64 5,.string ⟨#[]⟩,.int .i64 0,.int .i64 0] 75)).alloc (.cells #[.slice (some ⟨w.heap.size+1,0,none⟩) 1 1] 76)).alloc (.cells #[.slice (some ⟨w.heap.size,0,none⟩) 1 1,.int .i64 1,.slice (some ⟨w.heap.size+1+1,0,none⟩) 1 1] 56)) (some ⟨w.heap.size,0,none⟩) 1 s1L (some ⟨w.heap.size+1+1,0,none⟩) (qbk w.heap.size)/\New w ((((w.alloc (.cells #[.string ⟨#[97]⟩,.int .i64 0,.bool false] 71)).alloc (.cells #[.bool false,.int .i64 5,.string ⟨#[]⟩,.int .i64 0,.int .i64 0] 75)).alloc (.cells #[.slice (some ⟨w.heap.size+1,0,none⟩) 1 1] 76)).alloc (.cells #[.slice (some ⟨w.heap.size,0,none⟩) 1 1,.int .i64 1,.slice (some ⟨w.heap.size+1+1,0,none⟩) 1 1] 56))/\Blk ((((w.alloc (.cells #[.string ⟨#[97]⟩,.int .i64 0,.bool false] 71)).alloc (.cells #[.bool false,.int .i64 5,.string ⟨#[]⟩,.int .i64 0,.int .i64 0] 75)).alloc (.cells #[.slice (some ⟨w.heap.size+1,0,none⟩) 1 1] 76)).alloc (.cells #[.slice (some ⟨w.heap.size,0,none⟩) 1 1,.int .i64 1,.slice (some ⟨w.heap.size+1+1,0,none⟩) 1 1] 56)) (w.heap.size+1+1+1) 56 #[.slice (some ⟨w.heap.size,0,none⟩) 1 1,.int .i64 1,.slice (some ⟨w.heap.size+1+1,0,none⟩) 1 1]:=by
 obtain⟨W1,h1⟩:∃W,W=w.alloc (.cells #[.string ⟨#[97]⟩,.int .i64 0,.bool false] 71):=⟨_,rfl⟩;obtain⟨W2,h2⟩:∃W,W=W1.alloc (.cells #[.bool false,.int .i64 5,.string ⟨#[]⟩,.int .i64 0,.int .i64 0] 75):=⟨_,rfl⟩;obtain⟨W3,h3⟩:∃W,W=W2.alloc (.cells #[.slice (some ⟨w.heap.size+1,0,none⟩) 1 1] 76):=⟨_,rfl⟩;obtain⟨W4,h4⟩:∃W,W=W3.alloc (.cells #[.slice (some ⟨w.heap.size,0,none⟩) 1 1,.int .i64 1,.slice (some ⟨w.heap.size+1+1,0,none⟩) 1 1] 56):=⟨_,rfl⟩;have e4:((((w.alloc (.cells #[.string ⟨#[97]⟩,.int .i64 0,.bool false] 71)).alloc (.cells #[.bool false,.int .i64 5,.string ⟨#[]⟩,.int .i64 0,.int .i64 0] 75)).alloc (.cells #[.slice (some ⟨w.heap.size+1,0,none⟩) 1 1] 76)).alloc (.cells #[.slice (some ⟨w.heap.size,0,none⟩) 1 1,.int .i64 1,.slice (some ⟨w.heap.size+1+1,0,none⟩) 1 1] 56))=W4:=by rw[h4,h3,h2,h1]
 rw[e4];have s1:W1.heap.size=w.heap.size+1:=by rw[h1,World.size_alloc]
 have s2:W2.heap.size=w.heap.size+1+1:=by rw[h2,World.size_alloc,s1]
 have s3:W3.heap.size=w.heap.size+1+1+1:=by rw[h3,World.size_alloc,s2]
 have b1:New w W1:=by rw[h1];exact zac _ _
 have b2:New W1 W2:=by rw[h2];exact zac _ _
 have b3:New W2 W3:=by rw[h3];exact zac _ _
 have b4:New W3 W4:=by rw[h4];exact zac _ _
 have b24:=New.trans b3 b4;have b14:=New.trans b2 b24;have r1:Reads W1 W1.heap.size 3 (some ⟨w.heap.size,0,none⟩) 1 (recs zly s1L):=by have:=Reads.litR w 71 #[.string ⟨#[97]⟩,.int .i64 0,.bool false] 1 3 (recs zly s1L) rfl rfl;rw[<-h1] at this;exact this
 have r2:Reads W2 W2.heap.size 5 (some ⟨w.heap.size+1,0,none⟩) 1 (recs za0 [qbi 5]):=by have:=Reads.litR W1 75 #[.bool false,.int .i64 5,.string ⟨#[]⟩,.int .i64 0,.int .i64 0] 1 5 (recs za0 [qbi 5]) rfl rfl;rw[s1,<-h2] at this;exact this
 have r3:Reads W3 W3.heap.size 1 (some ⟨w.heap.size+1+1,0,none⟩) 1 (recs zk9 (qbk w.heap.size)):=by have:=Reads.litR W2 76 #[.slice (some ⟨w.heap.size+1,0,none⟩) 1 1] 1 1 (recs zk9 (qbk w.heap.size)) rfl rfl;rw[s2,<-h3] at this;exact this
 refine⟨⟨Reads.later r1 b14,by decide,by decide,by decide,Reads.later r3 b4,by simp[qbk],?_⟩,New.trans b1 b14,?_⟩
 ·intro d hd
  simp only[qbk,qof,qqg,or_false] at hd;subst hd;exact⟨Reads.later r2 b24,show∀x∈[qbi 5],x.2.2.1.length<=140737488351232/\ ∀z∈x.2.2.1,z<256 from by decide,by simp,by simp,by simp⟩
 ·have:=Blk.new W3 56 #[.slice (some ⟨w.heap.size,0,none⟩) 1 1,.int .i64 1,.slice (some ⟨w.heap.size+1+1,0,none⟩) 1 1]
  rw[s3,<-h4] at this;exact this
end Go.Proofs.Y
