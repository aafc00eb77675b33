import Derived.Test.YtbahbnbpmfgimaaGreatDoorBun45
import Derived.Test.YtbahbnbpmfgimaaGreatDoorBun47
set_option maxHeartbeats 1000000
set_option maxRecDepth 100000
namespace Go.Proofs.Y
open Go.RowKit Go.Hm
structure WrOk(L:List zbi)(r:Int)(D:List (List zab))(gr pr:Int):Prop where
 cols:zpv L
 names:∀c∈L,∀z∈c.1,z<256
 len:D.length=L.length
 rows:0<=r/\r<=65536
 all:∀l∈D,((l.length:Nat):Int)=r
 data:∀l∈D,∀c∈l,zat c
 conf:(1<=gr/\gr<=65536)/\1<=pr/\pr<=65536
theorem qac{D:List (List zab)}(h:∀l∈D,∀c∈l,zat c)(c:Nat)(s:Int × Int):∀y∈zcd D c s,zat y:=by
 intro y hy;unfold zcd at hy;have hy:=qoo (qmu hy);by_cases hc:c<D.length
 ·exact h _ (zax [] hc) y hy
 ·rw[qnp,qnx (by omega)] at hy
  cases hy
theorem z4p{t:Int}{l:List zab}(h:∀y∈l,zat y):statData (zmz t l):=by
 have hs:=zof t l;cases hb:(zmz t l).2.1 with
 |true=>exact⟨h _ (hs.least hb).1.1,h _ (hs.most hb).1.1⟩
 |false=>
  obtain⟨e1,e2⟩:=hs.none hb;have h0:zat zbf:=by unfold zat zbf;simp
  exact⟨by rw[e1];exact h0,by rw[e2];exact h0⟩
theorem z4q{L:List zbi}{r:Int}{E:List Int}{D:List (List zab)}{gr pr:Int}(h:WrOk L r D gr pr):zfo (ze1 L r E D gr pr):=by refine⟨h.names,fun g hg l hl p hp=>?_⟩;obtain⟨s,_,rfl⟩:=qly.1 hg;obtain⟨c,_,rfl⟩:=qly.1 hl;obtain⟨q,_,rfl⟩:=qly.1 hp;exact z4p (qac h.data c q)
theorem z4r{L:List zbi}{r:Int}{DD:List ze9}{gr pr:Int}{E:List Int}{b:List Nat}(h:WrOk L r (DD.map (·.2.2)) gr pr)(hw:zg0 L r DD gr pr E=(0,b))(h0:zgr L r DD=0)(h1:zey gr pr E L=0):
 zb0 (ze1 L r E (DD.map (·.2.2)) gr pr)/\zfo (ze1 L r E (DD.map (·.2.2)) gr pr)/\b=zf0 (zqt L E (DD.map (·.2.2)) pr (zd5 0 r gr)).flatten.flatten.flatten (ze8 (ze1 L r E (DD.map (·.2.2)) gr pr))/\
 (ze8 (ze1 L r E (DD.map (·.2.2)) gr pr)).length<=1073741824/\openO b=some (ze1 L r E (DD.map (·.2.2)) gr pr,ze8 (ze1 L r E (DD.map (·.2.2)) gr pr))/\
 zfx (ze1 L r E (DD.map (·.2.2)) gr pr).groups (b.drop 4)=zqt L E (DD.map (·.2.2)) pr (zd5 0 r gr)/\(∀s∈zd5 0 r gr,∀c,c<L.length-> ∀q∈zd5 s.1 s.2 pr,(zik L E (DD.map (·.2.2)) c q).1=0)/\(∀x∈b,x<256)/\b.length<=2147483660:=by
 unfold zg0 at hw;rw[if_neg (by rw[h0];simp),if_neg (by rw[h1];simp)] at hw;generalize hD:DD.map (·.2.2)=D at*;split at hw
 ·cases hw
 ·rename_i x hx
  split at hw
  ·cases hw
  ·rename_i own ho
   split at hw
   ·cases hw
   ·rename_i hbig
    unfold zq6 at ho;split at ho
    ·rename_i hF
     injection ho with ho;subst ho;injection hw with _ hb;have hok:=zzf _ x hx;obtain⟨k1,k2⟩:=zw2 (zd5 0 r gr) hx;rw[qmx] at k1;rw[k1] at hb hok;have hDa:=z4q (E:=E) h;have h8:=z4l hF hDa;have hcut:=fun R=>z94 (L:=L) (E:=E) (D:=D) (pr:=pr) (zd5 0 r gr) R
     have hop:openO b=some (ze1 L r E D gr pr,ze8 (ze1 L r E D gr pr)):=by rw[<-hb];exact zsa hF hDa (hcut []).2 h8 (by omega)
     have hcg:zfx (ze1 L r E D gr pr).groups (b.drop 4)=zqt L E D pr (zd5 0 r gr):=by
      have e:b.drop 4=(zqt L E D pr (zd5 0 r gr)).flatten.flatten.flatten++(ze8 (ze1 L r E D gr pr)++(low (ze8 (ze1 L r E D gr pr)).length 4++tailL)):=by rw[<-hb];unfold zf0;exact qo0 (show headL_film.length=4 from rfl)
      rw[e];exact(hcut _).1
     have hb8:∀z∈b,z<256:=by
      rw[<-hb];intro z hz;unfold zf0 at hz;rcases qnd.1 hz with hz|hz
      ·simp[headL_film] at hz;omega
      rcases qnd.1 hz with hz|hz
      ·obtain⟨p,hp,hz⟩:=qqh.1 hz
       obtain⟨ch,hch,hp⟩:=qqh.1 hp;obtain⟨g,hg,hch⟩:=qqh.1 hch;obtain⟨s,hs,rfl⟩:=qly.1 hg;obtain⟨c,hc,rfl⟩:=qly.1 hch;obtain⟨q,hq,rfl⟩:=qly.1 hp;exact qjm (qac h.data c q) (show pgE _ _ _ _=(0,pgF L E D c q) from Prod.ext (k2 s hs c (qot.1 hc) q hq) rfl) z hz
      rcases qnd.1 hz with hz|hz
      ·exact h8 z hz
      rcases qnd.1 hz with hz|hz
      ·exact zgf _ _ z hz
      ·simp[tailL] at hz;omega
     refine⟨hF,hDa,hb.symm,by omega,hop,hcg,k2,hb8,?_⟩;rw[<-hb,zhs];omega
    ·cases ho
section
variable{L:List zbi}{E:List Int}{D:List (List zab)}{pr:Int}
theorem qfo{c:Nat}:∀(l:List (Int × Int)) (y:List (List Nat) × Int),(∀q∈l,(zik L E D c q).1=0/\(zik L E D c q).2.length<=268435456)->y.2+((l.map (pgF L E D c)).flatten.length:Int)<=1073741824-> ∃x,chW L E D c (some y) l=some x/\x.2=y.2+((l.map (pgF L E D c)).flatten.length:Int)
 | [],y,_,_=>⟨y,rfl,by simp⟩
 |q::l,y,h,hz=>by
  have h0:=h q (by simp);rw[qmp,qpw,qmv] at hz;have e0:(pgF L E D c q).length=(zik L E D c q).2.length:=rfl;have e:chW L E D c (some y) (q::l)=chW L E D c (pgW L E D c (some y) q) l:=rfl;have e2:pgW L E D c (some y) q=some (y.1++[(zik L E D c q).2],y.2+(zik L E D c q).2.length):=by unfold pgW;dsimp only;rw[if_pos ⟨h0.1,h0.2,by omega⟩]
  obtain⟨x,h1,h2⟩:=qfo l (y.1++[(zik L E D c q).2],y.2+(zik L E D c q).2.length) (fun q' hq'=>h q' (by simp[hq'])) (by dsimp only;omega);refine⟨x,by rw[e,e2,h1],?_⟩;rw[h2,qmp,qpw,qmv];dsimp only;omega
theorem qfp{s:Int × Int}:∀(k:Nat) (y:List (List Nat) × Int),(∀c,c<k-> ∀q∈zd5 s.1 s.2 pr,(zik L E D c q).1=0/\(zik L E D c q).2.length<=268435456)->y.2+((zua L E D (zd5 s.1 s.2 pr) (List.range k)).flatten.flatten.length:Int)<=1073741824->
 ∃x,gpW L E D pr s (some y) k=some x/\x.2=y.2+((zua L E D (zd5 s.1 s.2 pr) (List.range k)).flatten.flatten.length:Int)
 |0,y,_,_=>⟨y,rfl,by simp[zua]⟩
 |k+1,y,h,hz=>by
  have e:(zua L E D (zd5 s.1 s.2 pr) (List.range (k+1))).flatten.flatten.length=(zua L E D (zd5 s.1 s.2 pr) (List.range k)).flatten.flatten.length+((zd5 s.1 s.2 pr).map (pgF L E D k)).flatten.length:=by rw[qpp];simp[zua]
  obtain⟨x,h1,h2⟩:=qfp k y (fun c hc=>h c (by omega)) (by omega);obtain⟨z,h3,h4⟩:=qfo (zd5 s.1 s.2 pr) x (h k (by omega)) (by omega);exact⟨z,by rw[gpW,h1,h3],by omega⟩
theorem qad:∀(l:List (Int × Int)) (y:List (List Nat) × Int),(∀s∈l,∀c,c<L.length-> ∀q∈zd5 s.1 s.2 pr,(zik L E D c q).1=0/\(zik L E D c q).2.length<=268435456)->y.2+((zqt L E D pr l).flatten.flatten.flatten.length:Int)<=1073741824->
 ∃x,l.foldl (grW L E D pr) (some y)=some x
 | [],y,_,_=>⟨y,rfl⟩
 |s::l,y,h,hz=>by
  have e:(zqt L E D pr (s::l)).flatten.flatten.flatten.length=(zua L E D (zd5 s.1 s.2 pr) (List.range L.length)).flatten.flatten.length+(zqt L E D pr l).flatten.flatten.flatten.length:=by simp[zqt]
  obtain⟨x,h1,h2⟩:=qfp L.length y (h s (by simp)) (by omega);obtain⟨z,h3⟩:=qad l x (fun s' hs'=>h s' (by simp[hs'])) (by omega);exact⟨z,by rw[qp3,grW,h1,h3]⟩
end
theorem zw5{f t:Nat}{s:Int}{q:Int × Int}(h:q∈zd5 (f:Int) (t:Int) s):∃a b:Nat,q=((a:Int),(b:Int))/\f<=a/\a<b/\b<=t:=by
 unfold zd5 at h;split at h
 ·cases h
 ·rename_i hc
  unfold zgw at h;obtain⟨i,hi,rfl⟩:=qly.1 h;rw[qot] at hi;have:=(zgx (f:=(f:Int).toNat) (t:=(t:Int).toNat) (s:=s.toNat) (by omega) i).1 hi;refine⟨_,_,rfl,?_,?_,?_⟩
  ·omega
  ·rw[qn2];omega
  ·omega
theorem zw6(l:List zab):∀(S:List (Int × Int)),(∀q∈S,∃a b:Nat,q=((a:Int),(b:Int))/\a<=b/\b<=l.length)->(S.map fun q=>q.2-q.1).sum=(((S.map fun q=>(l.drop q.1.toNat).take (q.2-q.1).toNat).flatten.length:Nat):Int)
 | [],_=>rfl
 |q::S,h=>by
  obtain⟨a,b,rfl,h1,h2⟩:=h _ (List.mem_cons_self);have ih:=zw6 l S fun q hq=>h q (by simp[hq])
  rw[qmp,qpf,ih,qmp,qpw,qmv,ql2,ql0];dsimp only;omega
theorem z1w{f t:Nat}{s:Int}(h:f<=t)(ht:t<=65536)(hs:1<=s):((zd5 (f:Int) (t:Int) s).map fun q=>q.2-q.1).sum=(t:Int)-(f:Int):=by
 rw[zw6 (List.replicate t zq2) _ (fun q hq=>by obtain⟨a,b,e,_,h2,h3⟩:=z1v hq;exact⟨a,b,e,h2,by simpa using h3⟩),z95 _ h ht hs,ql2,ql0,qom]
 omega
theorem zw7{D:List (List zab)}{c a b:Nat}(h1:a<=b)(h2:b<=(D.getD c []).length):(zcd D c ((a:Int),(b:Int))).length=b-a:=by unfold zcd;rw[ql2,ql0];dsimp only;omega
theorem qek{L:List zbi}{r:Int}{E:List Int}{D:List (List zab)}{gr pr:Int}(h:WrOk L r D gr pr)(hr:∀c,c<L.length-> ∀y∈D.getD c [],zam y (L.getD c zf5).2.1 (L.getD c zf5).2.2=true)
 (hp:∀s∈zd5 0 r gr,∀c,c<L.length-> ∀q∈zd5 s.1 s.2 pr,(zik L E D c q).1=0/\(zik L E D c q).2.length<=268435456)(hz:(zqt L E D pr (zd5 0 r gr)).flatten.flatten.flatten.length<=1073741824):zb0 (ze1 L r E D gr pr):=by
 obtain⟨n,rfl⟩:=qn1 h.rows.1;have hn:=h.rows.2;have hlc:∀c,c<L.length->(D.getD c []).length=n:=fun c hc=>by have:=h.all _ (zax [] (show c<D.length by rw[h.len];exact hc));omega
 have hG:∀g∈(ze1 L n E D gr pr).groups,GroupOk L g:=by
  intro g hg;obtain⟨s,hs,rfl⟩:=qly.1 hg;obtain⟨a,b,rfl,h1,h2,h3⟩:=zw5 (f:=0) hs;refine⟨by unfold zd7;dsimp only;omega,by unfold zd7;simp,fun c hc=>?_⟩;have e:(zd7 L E D pr ((a:Int),(b:Int))).2.getD c []=(zd5 (a:Int) (b:Int) pr).map (zeh L E D c):=by
   unfold zd7;dsimp only;rw[zbw _ _ 0 [] (by rw[qow];exact hc)];have:(List.range L.length).getD c 0=c:=by rw[qnp,List.getElem?_range hc];rfl
   rw[this]
  rw[e];constructor
  ·intro p hpm
   obtain⟨q,hq,rfl⟩:=qly.1 hpm;have hpq:=hp _ hs c hc q hq;obtain⟨x,y,rfl,k1,k2,k3⟩:=zw5 hq;have hcl:=zw7 (D:=D) (c:=c) (show x<=y by omega) (by rw[hlc c hc];omega);obtain⟨_,_,_,_,d,_,hb⟩:=z04 (show pgE _ _ _ _=(0,(zik L E D c ((x:Int),(y:Int))).2) from Prod.ext hpq.1 rfl);have hb1:1<=(zik L E D c ((x:Int),(y:Int))).2.length:=by rw[hb,qm9];omega
   have hst:=zof (L.getD c zf5).2.1 (zcd D c ((x:Int),(y:Int)));have hri:∀z∈zcd D c ((x:Int),(y:Int)),zam z (L.getD c zf5).2.1 (L.getD c zf5).2.2=true:=fun z hz=>hr c hc z (by unfold zcd at hz;exact qoo (qmu hz))
   have htc:=h.cols.2.1 _ (zax zf5 hc);have hn1:=hst.nulls;have hn2:=ziz (zcd D c ((x:Int),(y:Int)));refine pageB_most.2 ⟨⟨?_,?_,?_,?_⟩,?_⟩
   ·unfold zeh;dsimp only;omega
   ·unfold zeh;dsimp only;omega
   ·unfold zeh;dsimp only;omega
   ·unfold zeh;dsimp only;omega
   ·have hR:=hst.right (fun z hz=>zsg (hri z hz)) ⟨htc.2.2.1,htc.2.2.2⟩ (by omega)
    unfold zeh;dsimp only;rw[show zck (L.getD c ([],0,false)).2.1 (zmz (L.getD c zf5).2.1 (zcd D c ((x:Int),(y:Int))))=true from hR];simp only[qpk,qnt,decide_eq_true_eq,beq_iff_eq,qof];refine⟨by omega,?_,?_⟩
    ·cases hb2:(zmz (L.getD c zf5).2.1 (zcd D c ((x:Int),(y:Int)))).2.1 with
     |true=>
      obtain⟨z,hz,hz0⟩:=hst.has.1 hb2;have:nullsL (zcd D c ((x:Int),(y:Int)))<(zcd D c ((x:Int),(y:Int))).length:=by unfold nullsL;exact qq5.2 ⟨z,hz,by simpa using hz0⟩
      rw[eq_comm,decide_eq_true_eq];omega
     |false=>
      rw[eq_comm,decide_eq_false_iff_not];intro hlt;have:nullsL (zcd D c ((x:Int),(y:Int)))<(zcd D c ((x:Int),(y:Int))).length:=by omega
      unfold nullsL at this;obtain⟨z,hz,hz0⟩:=qq5.1 this;have:=hst.has.2 ⟨z,hz,by simpa using hz0⟩;rw[hb2] at this;cases this
    ·show(L.getD c zf5).2.2=true\/_
     cases hnu:(L.getD c zf5).2.2 with
     |true=>exact .inl rfl
     |false=>
      right;have:nullsL (zcd D c ((x:Int),(y:Int)))=0:=by unfold nullsL;rw[qpy,List.filter_eq_nil_iff];intro z hz hz0;have hzr:=hri z hz;rw[hnu] at hzr;unfold zam at hzr;rw[if_pos hz0] at hzr;simp at hzr
      omega
  ·have e2:∀S:List (Int × Int),(∀q∈S,∃x y:Nat,q=((x:Int),(y:Int))/\x<=y/\y<=n)->zmq (S.map (zeh L E D c))=(S.map fun q=>q.2-q.1).sum:=by
    intro S;induction S with
    |nil=>intro _;rfl
    |cons q S ih=>
     intro hS;obtain⟨x,y,rfl,k1,k2⟩:=hS _ (List.mem_cons_self);have hcl:=zw7 (D:=D) (c:=c) k1 (by rw[hlc c hc];exact k2);rw[qmp,zho,ih fun q hq=>hS q (by simp[hq]),qmp,qpf];unfold zeh;dsimp only;omega
   rw[e2 _ (fun q hq=>by obtain⟨x,y,e,k1,k2,k3⟩:=z1v hq;exact⟨x,y,e,k2,by omega⟩),z1w (by omega) (by omega) h.conf.2.1]
   rfl
 refine⟨h.cols,hG,?_,hn,?_⟩
 ·have:=z1w (f:=0) (t:=n) (s:=gr) (by omega) (by omega) h.conf.1.1
  show(((zd5 0 (n:Int) gr).map (zd7 L E D pr)).map (·.1)).sum=(n:Int);rw[qnr];have e3:((fun x:za9=>x.1) ∘ zd7 L E D pr)=fun q:Int × Int=>q.2-q.1:=rfl
  rw[e3];simpa using this
 ·have hc:=(z94 (L:=L) (E:=E) (D:=D) (pr:=pr) (zd5 0 (n:Int) gr) []).2
  have:=zys (G:=(ze1 L n E D gr pr).groups) (fun g hg l hl p hpp=>by obtain⟨s,hs,rfl⟩:=qly.1 hg;obtain⟨c,_,rfl⟩:=qly.1 hl;obtain⟨q,_,rfl⟩:=qly.1 hpp;unfold zeh;dsimp only;omega)
  rw[<-this];have e4:(ze1 L n E D gr pr).groups=(zd5 0 (n:Int) gr).map (zd7 L E D pr):=rfl;rw[e4,<-hc];omega
theorem qel{L:List zbi}{r:Int}{DD:List ze9}{gr pr:Int}{E:List Int}(h:WrOk L r (DD.map (·.2.2)) gr pr)(h0:zgr L r DD=0)(h1:zey gr pr E L=0)(hr:∀c,c<L.length-> ∀y∈(DD.map (·.2.2)).getD c [],zam y (L.getD c zf5).2.1 (L.getD c zf5).2.2=true)
 (hp:∀s∈zd5 0 r gr,∀c,c<L.length-> ∀q∈zd5 s.1 s.2 pr,(zik L E (DD.map (·.2.2)) c q).1=0/\(zik L E (DD.map (·.2.2)) c q).2.length<=268435456)(hz:(zqt L E (DD.map (·.2.2)) pr (zd5 0 r gr)).flatten.flatten.flatten.length<=1073741824)
 (hf:(ze8 (ze1 L r E (DD.map (·.2.2)) gr pr)).length<=1073741824):∃b,zg0 L r DD gr pr E=(0,b):=by
 have hF:=qek h hr hp hz;obtain⟨x,hx⟩:=qad (zd5 0 r gr) ([],0) hp (by dsimp only;omega);unfold zg0;rw[if_neg (by rw[h0];simp),if_neg (by rw[h1];simp)];have hx:z1o L E (DD.map (·.2.2)) pr (zd5 0 r gr)=some x:=hx;rw[hx];dsimp only;have he:zq6 (ze1 L r E (DD.map (·.2.2)) gr pr)=some (ze8 (ze1 L r E (DD.map (·.2.2)) gr pr)):=by unfold zq6;rw[if_pos hF]
 rw[he];dsimp only;rw[if_neg (by omega)];exact⟨_,rfl⟩
theorem z4s{t:Int}{K m:Nat}{l:List zbc}(h:∀p∈l,(zf4 t p).length<=K)(hm:l.length<=m)(h6:m<=65536):(zgz t l).length<=10+m*K:=by
 have key:∀l:List zbc,(∀p∈l,(zf4 t p).length<=K)->(l.flatMap (zf4 t)).length<=l.length*K:=by
  intro l;induction l with
  |nil=>intro _;simp
  |cons p l ih=>
   intro h;have h1:=h p (by simp);have h2:=ih fun q hq=>h q (by simp[hq])
   rw[qpe,qmv,qm9,qn2];omega
 have h1:=key l h;have h2:=zas (n:=l.length) (by omega);have h3:l.length*K<=m*K:=ql4 _ hm;unfold zgz;rw[qmv];omega
theorem zqn{K m:Nat}(h6:m<=65536):∀(cs:List zbi) (C:List (List zbc)),(∀t,∀l∈C,∀p∈l,(zf4 t p).length<=K)->(∀l∈C,l.length<=m)->(zcl cs C).length<=C.length*(10+m*K)
 | [],C,_,_=>by simp[zcl]
 |c::cs,[],_,_=>by simp[zcl]
 |c::cs,l::C,h,hm=>by
  have h1:=z4s (t:=c.2.1) (K:=K) (m:=m) (fun p hp=>h _ l (by simp) p hp) (hm l (by simp)) h6;have h2:=zqn h6 cs C (fun t l' hl'=>h t l' (by simp[hl'])) (fun l' hl'=>hm l' (by simp[hl']));rw[zcl,qmv,qm9,qn2];omega
theorem qae{F:FootS}{K m n:Nat}(h:∀t,∀g∈F.groups,∀l∈g.2,∀p∈l,(zf4 t p).length<=K)(hn:∀g∈F.groups,g.2.length<=n)(hm:∀g∈F.groups,∀l∈g.2,l.length<=m)(h6:m<=65536)
 (hr:F.rows.toNat<18446744073709551616)(hg:F.groups.length<18446744073709551616:=by decide)(hg1:∀g∈F.groups,g.1.toNat<18446744073709551616:=by decide):(ze8 F).length<=(putC [] F.cols).length+20+F.groups.length*(10+n*(10+m*K)):=by
 have key:∀G:List za9,(∀g∈G,g∈F.groups)->(G.flatMap (zde F.cols)).length<=G.length*(10+n*(10+m*K)):=by
  intro G;induction G with
  |nil=>intro _;simp
  |cons g G ih=>
   intro hG;have hgF:=hG g (by simp);have h1:=zqn h6 F.cols g.2 (fun t l hl=>h t g hgF l hl) (hm g hgF);have h2:=ih fun q hq=>hG q (by simp[hq])
   have h3:g.2.length*(10+m*K)<=n*(10+m*K):=ql4 _ (hn g hgF);have h4:=zas (n:=g.1.toNat) (hg1 g hgF);have h5:(zde F.cols g).length=(vp g.1.toNat).length+(zcl F.cols g.2).length:=by unfold zde;rw[qmv]
   rw[qpe,qmv,qm9,qn2];omega
 have h1:=key F.groups (fun g hg=>hg);have h2:=zas hr;have h3:=zas hg;unfold ze8;simp only[qmv];omega
open Go Go.RowKit Go.Hm
theorem z1y{F:FootS}{b:List Nat}(h:zb0 F)(hb:szG F.groups+4<=b.length){k j q:Nat}(hk:k<F.groups.length)(hj:j<F.cols.length)(hq:q<(za0 F.groups k j).length):
 zw8 b F (k:Int) (j:Int) (q:Int)=some ((((zfx F.groups (b.drop 4)).getD k []).getD j []).getD q []):=by
 have hgl:(F.groups.getD k zaq).2.length=F.cols.length:=(zc5 h hk).2.1;have p4:=(zkd h hk hj hq).2.2.2;have e:=z3r h hk hj (q:=q);have a1:=zt3 hk;have a2:=qfd F.groups (k+1);have a3:=zt2 (C:=(F.groups.getD k zaq).2) (j:=j) (by omega);have a4:=qfc (F.groups.getD k zaq).2 (j+1);have a5:szL ((za0 F.groups k j).take (q+1))=_:=z08 hq;have a6:=qfb (za0 F.groups k j) (q+1);have a7:szL ((F.groups.getD k zaq).2.getD j [])=szL (za0 F.groups k j):=rfl;unfold zw8;rw[z1x h hk hj hq,e];simp only[qmt];rw[if_neg (by omega),if_neg (by omega)];congr 1
 rw[zi1 _ _ _ hk,cutC_at _ _ _ (by omega)];rw[show(F.groups.getD k zaq).2.getD j []=za0 F.groups k j from rfl,zyr _ _ _ hq,qoq,qoq,qoq];congr 2
 omega
theorem qeo:zg0 [] 0 [] 1 1 []=(0,[72,89,80,79,0,0,0,3,0,0,0,79,80,89,72]):=by
 have e1:zgr [] 0 []=0:=by decide
 have e2:zey 1 1 [] []=0:=by decide
 have e3:zd5 0 0 1=[]:=by decide
 have e4:zq6 fz=some [0,0,0]:=by unfold zq6;rw[if_pos qjs,zog]
 unfold zg0;rw[if_neg (by rw[e1];simp),if_neg (by rw[e2];simp)];have e5:ze1 [] 0 [] (([]:List ze9).map (·.2.2)) 1 1=fz:=by unfold ze1;rw[e3];rfl
 rw[e3,e5,e4];rfl
open Go Go.RowKit Go.Hm
def znq(C:List (List (List (List Nat))))(k j q:Nat):List (List Nat):=(C.take k).flatten.flatten++(((C.getD k []).take j).flatten++((C.getD k []).getD j []).take q)
section
variable{C:List (List (List (List Nat)))}{k j q:Nat}
theorem z4t(hk:k<C.length)(hj:j<(C.getD k []).length):∃R,C.flatten.flatten=znq C k j q++R:=by
 have h1:C=C.take k++(C.getD k []::C.drop (k+1)):=by
  conv=>lhs;rw[<-qoz k C]
  congr 1
  rw[qnp,qlx hk];exact qmh hk
 have h2:C.getD k []=(C.getD k []).take j++((C.getD k []).getD j []::(C.getD k []).drop (j+1)):=by
  conv=>lhs;rw[<-qoz j (C.getD k [])]
  congr 1
  rw[qnp (l:=C.getD k []),qlx hj];exact qmh hj
 unfold znq;generalize C.getD k []=X at*;generalize X.getD j []=Y at*;refine⟨Y.drop q++(X.drop (j+1)).flatten++(C.drop (k+1)).flatten.flatten,?_⟩;conv=>lhs;rw[h1,h2]
 simp only[qpm,qpw,qmi];rw[<-qmi (Y.take q) (Y.drop q),qoz]
theorem z4u(hk:k<C.length)(hj:j<(C.getD k []).length):(znq C k j q).flatten.length<=C.flatten.flatten.flatten.length:=by obtain⟨R,e⟩:=z4t (q:=q) hk hj;rw[e,qpm,qmv];omega
end
theorem zw9{L:List zbi}{r:Int}{D:List ze9}{gr pr:Int}{E:List Int}(h:(zg0 L r D gr pr E).1=0):zgr L r D=0/\zey gr pr E L=0:=by
 unfold zg0 at h;by_cases h1:zgr L r D=0
 ·rw[if_neg (by rw[h1];simp)] at h
  by_cases h2:zey gr pr E L=0
  ·exact⟨h1,h2⟩
  ·rw[if_pos h2] at h;exact absurd h h2
 ·rw[if_pos h1] at h;exact absurd h h1
structure Filed(L:List zbi)(r:Int)(b:List Nat)(F:FootS)(C:List (List (List (List Nat))))(own:List Nat):Prop where
 foot:zb0 F
 data:zfo F
 cols:F.cols=L
 rows:F.rows=r
 opened:openO b=some (F,own)
 pages:zfx F.groups (b.drop 4)=C
 whole:b=zf0 C.flatten.flatten.flatten own
 own_:own=ze8 F
 few:own.length<=1073741824
 bytes:∀x∈b,x<256
 short:b.length<=2147483660
 size:szG F.groups+own.length+12=b.length
theorem qjw{L:List zbi}{r:Int}{DD:List ze9}{gr pr:Int}{E:List Int}{b:List Nat}(h:WrOk L r (DD.map (·.2.2)) gr pr)(hw:zg0 L r DD gr pr E=(0,b)):
 Filed L r b (ze1 L r E (DD.map (·.2.2)) gr pr) (zqt L E (DD.map (·.2.2)) pr (zd5 0 r gr)) (ze8 (ze1 L r E (DD.map (·.2.2)) gr pr))/\ ∀s∈zd5 0 r gr,∀c,c<L.length-> ∀q∈zd5 s.1 s.2 pr,(zik L E (DD.map (·.2.2)) c q).1=0:=by
 obtain⟨h0,h1⟩:=zw9 (L:=L) (r:=r) (D:=DD) (gr:=gr) (pr:=pr) (E:=E) (by rw[hw]);obtain⟨t1,t2,t3,t4,t5,t6,hp,t8,t9⟩:=z4r h hw h0 h1;exact⟨⟨t1,t2,rfl,rfl,t5,t6,t3,rfl,t4,t8,t9,(zoc t8 (by omega) t5).2.2.2.2.1⟩,hp⟩
structure PageAt(b:List Nat)(F:FootS)(C:List (List (List (List Nat)))):Prop where
 groups:C.length=F.groups.length
 chunks:∀k,k<F.groups.length->(C.getD k []).length=F.cols.length/\(F.groups.getD k zaq).2.length=F.cols.length
 pages:∀k j,k<F.groups.length->j<F.cols.length->((C.getD k []).getD j []).length=(za0 F.groups k j).length
 page:∀k j q,k<F.groups.length->j<F.cols.length->q<(za0 F.groups k j).length->
  zw8 b F (k:Int) (j:Int) (q:Int)=some (((C.getD k []).getD j []).getD q [])/\((((C.getD k []).getD j []).getD q []).length:Int)=((za0 F.groups k j).getD q zb1).1
 few:C.flatten.flatten.length<=4194304
 bytes:C.flatten.flatten.flatten.length<=2147483660
theorem Filed.at_{L:List zbi}{r:Int}{b:List Nat}{F:FootS}{C:List (List (List (List Nat)))}{own:List Nat}(h:Filed L r b F C own):PageAt b F C:=by
 have hs:4+szG F.groups<=b.length:=by have:=h.size;omega
 have hp:=h.pages;refine⟨by rw[<-hp,zjq],fun k hk=>⟨?_,(zc5 h.foot hk).2.1⟩,fun k j hk hj=>?_,fun k j q hk hj hq=>?_,?_,?_⟩
 ·rw[<-hp,zi1 _ _ k hk,zlr]
  exact(zc5 h.foot hk).2.1
 ·have hj2:j<(F.groups.getD k zaq).2.length:=by rw[(zc5 h.foot hk).2.1];exact hj
  rw[<-hp,zi1 _ _ k hk,Go.Hm.cutC_at _ _ j hj2,zjp];rfl
 ·have hj2:j<(F.groups.getD k zaq).2.length:=by rw[(zc5 h.foot hk).2.1];exact hj
  rw[<-hp];refine⟨z1y h.foot (by omega) hk hj hq,?_⟩;obtain⟨a1,a2,a3⟩:=zwk hs hk hj2 hq;have hz:=zlt h.foot _ (zax zaq hk) _ (zax [] hj2) _ (show(za0 F.groups k j).getD q zb1∈za0 F.groups k j from zax zb1 hq);rw[a3,ql2,ql0];omega
 ·have:=z4k h.foot b
  unfold z92 at this;rwa[hp] at this
 ·have h1:=congrArg List.length h.whole
  rw[zhs] at h1;have:=h.short;omega
structure PageBy(b:List Nat)(L:List zbi)(r:Int)(Gs:List GrD)(C:List (List (List (List Nat)))):Prop where
 groups:C.length=Gs.length
 chunks:∀k,k<Gs.length->(C.getD k []).length=L.length/\(Gs.getD k grZ).2.2.2.length=L.length
 pages:∀k j,k<Gs.length->j<L.length->((C.getD k []).getD j []).length=((Gs.getD k grZ).2.2.2.getD j chZ).2.2.length
 page:∀k j q,k<Gs.length->j<L.length->q<((Gs.getD k grZ).2.2.2.getD j chZ).2.2.length->
  zw8 b (zb5 L r Gs) (k:Int) (j:Int) (q:Int)=some (((C.getD k []).getD j []).getD q [])/\((((C.getD k []).getD j []).getD q []).length:Int)=(((Gs.getD k grZ).2.2.2.getD j chZ).2.2.getD q zb1).1
 few:C.flatten.flatten.length<=4194304
 bytes:C.flatten.flatten.flatten.length<=2147483660
theorem PageAt.by_{b:List Nat}{L:List zbi}{r:Int}{Gs:List GrD}{C:List (List (List (List Nat)))}(h:PageAt b (zb5 L r Gs) C):PageBy b L r Gs C:=by
 obtain⟨h1,h2,h3,h4,h5,h6⟩:=h;unfold zb5 at h1 h2 h3;dsimp only at h1 h2 h3;simp only[qos] at h1 h2 h3;have hk2:∀k,k<Gs.length->(Gs.getD k grZ).2.2.2.length=L.length:=fun k hk=>by have:=(h2 k hk).2;rw[zbw grP Gs grZ zaq hk] at this;unfold grP at this;simpa using this
 have hpa:∀k j,k<Gs.length->j<L.length->za0 (Gs.map grP) k j=((Gs.getD k grZ).2.2.2.getD j chZ).2.2:=fun k j hk hj=>by unfold za0;rw[zbw grP Gs grZ zaq hk];unfold grP;dsimp only;rw[zbw (fun x:ChD=>x.2.2) _ chZ [] (by rw[hk2 k hk];exact hj)]
 refine⟨h1,fun k hk=>⟨(h2 k hk).1,hk2 k hk⟩,fun k j hk hj=>by rw[h3 k j hk hj,hpa k j hk hj],fun k j q hk hj hq=>?_,h5,h6⟩;have:=h4 k j q (by unfold zb5;simpa using hk) hj (by unfold zb5;dsimp only;rw[hpa k j hk hj];exact hq);have e:za0 (zb5 L r Gs).groups k j=((Gs.getD k grZ).2.2.2.getD j chZ).2.2:=hpa k j hk hj;rw[e] at this;exact this
structure PgSt(C:List (List (List (List Nat))))(k j q B:Nat)(S:List Nat)(A:Option Addr)(c:Nat)(X:List zgp)(w:World):Prop where
 str:S=headL_film++(znq C k j q).flatten
 row:Go.Hm.Own w B 24 (.slice A X.length c) (recs zgq X)
 pages:∀d∈X,TR w 5 d.1 d.2.2.length (zah .u8 d.2.2)
 map:X.map byP=znq C k j q
theorem PgSt.later{C:List (List (List (List Nat)))}{k j q B:Nat}{S:List Nat}{A:Option Addr}{c:Nat}{X:List zgp}{w w':World}(h:PgSt C k j q B S A c X w)(hb:New w w'):PgSt C k j q B S A c X w':=
 ⟨h.str,h.row.later hb,fun d hd=>(h.pages d hd).below hb,h.map⟩
theorem PgSt.turn{C:List (List (List (List Nat)))}{k j q k' j' q' B:Nat}{S:List Nat}{A:Option Addr}{c:Nat}{X:List zgp}{w:World}(h:PgSt C k j q B S A c X w)(e:znq C k j q=znq C k' j' q'):PgSt C k' j' q' B S A c X w:=
 ⟨by rw[<-e];exact h.str,h.row,h.pages,by rw[<-e];exact h.map⟩
theorem PgSt.size{C:List (List (List (List Nat)))}{k j q B:Nat}{S:List Nat}{A:Option Addr}{c:Nat}{X:List zgp}{w:World}(h:PgSt C k j q B S A c X w)(hk:k<C.length)(hj:j<(C.getD k []).length):(zai S).size<=4+C.flatten.flatten.flatten.length:=by have h1:=z4u (q:=q) hk hj;rw[zbt,h.str,qmv];have:headL_film.length=4:=rfl;omega
theorem PgSt.len{C:List (List (List (List Nat)))}{k j q B:Nat}{S:List Nat}{A:Option Addr}{c:Nat}{X:List zgp}{w:World}(h:PgSt C k j q B S A c X w):X.length=(znq C k j q).length:=by rw[<-h.map,qos]
open Go Go.RowKit Go.Hm
theorem qhx{nu:Bool}(c:zab)(h:zam c 0 nu=true):(pgE 0 nu 0 [c]).1=0/\(pgE 0 nu 0 [c]).2.length<=20:=by
 have hr:∀y∈zed [c],zam y 0 false=true:=zry (nu:=nu) (fun y hy=>by simp at hy;subst hy;exact h);have hk:zk9 0 (zed [c])=true:=plOk_iff.2 ⟨⟨by omega,by omega,by have:=ztx [c];simp at this;omega⟩,hr⟩;have hv:zf1 0 0 (zed [c])=some (plB 0 (zed [c])):=by unfold zf1;rw[if_pos rfl];unfold plO;rw[if_pos hk]
 have hl:(plB 0 (zed [c])).length<=8:=by unfold plB;rw[if_neg (by omega)];unfold zed;cases h0:c.1<;> simp[List.filter,h0,plE,zbe]
 have e:encOf 0 0 [c]=0:=by unfold encOf;rw[if_neg (by omega)]
 unfold pgE;rw[if_neg (by simp[fitsV]),if_neg (by simp),if_pos (by simpa using h),e,hv];refine⟨rfl,?_⟩;have hs:(zc6 [c]).length<=1:=by unfold zc6;rw[zbe,zll];simp
 cases nu<;> simp[zgd]<;> omega
def s1L:List zbi:=[([97],0,false)]
def s1D:List (List zab):=[[qat 5]]
theorem qhy:zpv s1L:=(zez s1L).1 (by decide)
theorem zsk:zd5 0 1 1=[(0,1)]:=by decide
theorem qjx{DD:List ze9}(h:DD.map (·.2.2)=s1D):zgr s1L 1 DD=0:=by
 match DD,h with
 | [(A1,c1,l1)],h=>
   simp only[qmp,qmq,s1D,qli,and_true] at h;obtain rfl:=h;have e1:zc7 s1L=0:=by decide
   have e2:zdf s1L.length 1 [(A1,c1,[qat 5])]=0:=rfl;have e3:zju [(A1,c1,[qat 5])] s1L=true:=rfl;unfold zgr;rw[e1,e2,e3];rfl
theorem qhz:zey 1 1 [0] s1L=0:=by decide
theorem qjy:WrOk s1L 1 s1D 1 1:=by refine⟨qhy,by decide,rfl,by decide,by decide,?_,by decide⟩;intro l hl c hc;simp only[s1D,qnu,qpt,or_false] at hl;subst hl;simp only[qnu,qpt,or_false] at hc;subst hc;unfold zat;simp[qat]
theorem s1_page:(zik s1L [0] s1D 0 (0,1)).1=0/\(zik s1L [0] s1D 0 (0,1)).2.length<=20:=qhx (nu:=false) (qat 5) (by decide)
theorem qjz{s q:Int × Int}{c:Nat}(hs:s∈zd5 0 1 1)(hc:c<s1L.length)(hq:q∈zd5 s.1 s.2 1):c=0/\q=(0,1):=by rw[zsk] at hs;obtain rfl:=qne.1 hs;dsimp only at hq;rw[zsk] at hq;obtain rfl:=qne.1 hq;have:s1L.length=1:=rfl;exact⟨by omega,rfl⟩
theorem z1z:zqt s1L [0] s1D 1 (zd5 0 1 1)=[[[pgF s1L [0] s1D 0 (0,1)]]]:=by have e1:List.range s1L.length=[0]:=rfl;simp only[zqt,zua,e1,zsk,qmp,qmq]
theorem qag:(ze8 (ze1 s1L 1 [0] s1D 1 1)).length<=500000:=by
 have hk:=qae (F:=ze1 s1L 1 [0] s1D 1 1) (K:=140020) (m:=1) (n:=1) (fun t g hg l hl p hp=>?_) ?_ ?_ (by decide) (by decide)
 ·have e1:(putC [] (ze1 s1L 1 [0] s1D 1 1).cols).length<=20:=by
   show(putC [] s1L).length<=20;rw[putC,if_pos (by decide)];simp[s1L,zkl,z3o,zgd]
  have e2:(ze1 s1L 1 [0] s1D 1 1).groups.length=1:=by show((zd5 0 1 1).map _).length=1;rw[zsk];rfl
  rw[e2] at hk;omega
 ·obtain⟨s,hs,rfl⟩:=qly.1 hg
  obtain⟨c,hc,rfl⟩:=qly.1 hl;obtain⟨q,hq,rfl⟩:=qly.1 hp;obtain⟨rfl,rfl⟩:=qjz hs (qot.1 hc) hq;have:=s1_page.2;refine zwo ?_ ?_
  ·unfold zeh
   dsimp only;omega
  ·unfold zeh
   dsimp only;simp[zcd,s1D]
 ·intro g hg
  obtain⟨s,hs,rfl⟩:=qly.1 hg;unfold zd7;dsimp only;rw[qos,qow];exact ql6 _
 ·intro g hg l hl
  obtain⟨s,hs,rfl⟩:=qly.1 hg;obtain⟨c,hc,rfl⟩:=qly.1 hl;rw[zsk] at hs;obtain rfl:=qne.1 hs;rw[qos];show(zd5 0 1 1).length<=1;rw[zsk];exact ql6 _
theorem qep{DD:List ze9}(h:DD.map (·.2.2)=s1D):∃b F own p,zg0 s1L 1 DD 1 1 [0]=(0,b)/\Filed s1L 1 b F [[[p]]] own/\p.length<=20/\own.length<=500000:=by
 have hg:∃b,zg0 s1L 1 DD 1 1 [0]=(0,b):=by
  refine qel (by rw[h];exact qjy) (qjx h) qhz ?_ ?_ ?_ ?_
  ·rw[h];decide
  ·rw[h]
   intro s hs c hc q hq;obtain⟨rfl,rfl⟩:=qjz hs hc hq;exact⟨s1_page.1,by have:=s1_page.2;omega⟩
  ·rw[h,z1z]
   have:=s1_page.2;unfold pgF;simp;omega
  ·rw[h]
   exact qlw qag (by decide)
 obtain⟨b,hb⟩:=hg;have hf:=(qjw (by rw[h];exact qjy) hb).1;rw[h,z1z] at hf;exact⟨b,_,_,_,hb,hf,s1_page.2,qag⟩
open Go Go.RowKit Go.Hm
def emB:List Nat:=[72,89,80,79,0,0,0,3,0,0,0,79,80,89,72]
theorem qkt:zfo fz:=⟨by simp[fz],by simp[fz]⟩
theorem qh1:openO emB=some (fz,[0,0,0]):=by have h:=zsa (F:=fz) (body:=[]) qjs qkt (by simp[fz,szG]) (by rw[zog];decide) (by rw[zog];decide);rw[zog] at h;exact h
theorem qak(s d:List Nat):lvD s [d]=[zb4 s (leafP 0 1 d)]:=rfl
theorem zzi(s d:List Nat):ovD s [d]=zb4 s (leafP 0 1 d):=by unfold ovD;rw[qak,zhf]
theorem zzj{s:List Nat}(d:List Nat)(hs:1<=s.length/\s.length<=255):ovF s [d]=[zc2 s (leafP 0 1 d)]:=by unfold ovF;rw[qak,zhf];have e:za5 s (leafP 0 1 d)=some (zc2 s (leafP 0 1 d)):=if_pos ⟨hs.1,hs.2,by rw[zia];simp⟩;unfold lvF;show([0].flatMap fun(k:Nat)=>(za5 s (leafP (k:Int) 1 ([d].getD k []))).toList)++[]=_;simp only[qpe,qpv,qmg];show(za5 s (leafP 0 1 d)).toList=_;rw[e];rfl
def dg1(p:List Nat):List Nat:=zb4 zbx (leafP 0 1 p)
def dg2(p:List Nat):List Nat:=zb4 zcc (leafP 0 1 (dg1 p))
def dg3(p:List Nat):List Nat:=zb4 zbv (leafP 0 1 (dg2 p))
theorem zkj(p:List Nat):zim (dg1 p):=zbu _ _
theorem zkk(p:List Nat):zim (dg2 p):=zbu _ _
theorem zzk(p:List Nat):zim (dg3 p):=zbu _ _
theorem qj0(p:List Nat):z4x [[[p]]]=dg3 p:=by unfold z4x zqy;simp only[qmp,qmq];rw[zzi,zzi,zzi];rfl
theorem qal(p:List Nat):(qap [[[p]]]).length=3:=by unfold qap zrj;simp only[qmp,qmq,qpe,qpv,qmg];rw[zzj _ ⟨by decide,by decide⟩,zzj _ ⟨by decide,by decide⟩,zzj _ ⟨by decide,by decide⟩];rfl
theorem qh2{L:List zbi}{r:Int}{b:List Nat}{F:FootS}{p own:List Nat}(h:Filed L r b F [[[p]]] own):zyz F.groups b own=zqz own (dg3 p)/\(zwi F.groups b own).length=4:=by unfold zyz zwi;rw[h.pages,qj0];refine⟨rfl,?_⟩;rw[qmv,qal];rfl
theorem qh3:zyz fz.groups emB [0,0,0]=zb4 zdv [[0,0,0],zb4 zbn []]/\(zwi fz.groups emB [0,0,0]).length<=2:=by have e:zfx fz.groups (emB.drop 4)=[]:=rfl;unfold zyz zwi;rw[e];unfold z4x qap ovD ovF;have e2:lvD zbv (([]:List (List (List (List Nat)))).map zqy)=[]:=rfl;rw[e2,zhe];exact⟨rfl,by simp[zjx,lvF]⟩
theorem qh4:openO []=none:=by unfold openO zpu;rw[if_pos (.inl (by simp))]
theorem qj1:zy0 emB/\qau emB=0/\z4z emB=zb4 zdv [[0,0,0],zb4 zbn []]/\(zxe emB).length<=2:=by obtain⟨e1,e2,e3⟩:=z9h qh1;obtain⟨r1,r2⟩:=qh3;exact⟨zkf (by decide) (by decide),e1,by rw[e2,r1],by rw[e3];exact r2⟩
theorem qj2:zy0 []/\qau []=2/\z4z []=List.replicate 32 0/\zxe []=[]:=by obtain⟨e1,e2,e3⟩:=z1h qh4;exact⟨zkf (by simp) (by simp),e2,e1,e3⟩
theorem qj3{L:List zbi}{r:Int}{b:List Nat}{F:FootS}{p own:List Nat}(h:Filed L r b F [[[p]]] own)(hp:p.length<=20)(ho:own.length<=500000):zy0 b/\qau b=0/\z4z b=zqz own (dg3 p)/\(zxe b).length=4:=by
 obtain⟨e1,e2,e3⟩:=z9h h.opened;obtain⟨r1,r2⟩:=qh2 h;have hl:b.length<=1000000:=by rw[h.whole,zhs];simp;omega
 exact⟨zkf h.bytes hl,e1,by rw[e2,r1],by rw[e3];exact r2⟩
theorem qeq{b:List Nat}{F:FootS}{p own:List Nat}(h:Filed s1L 1 b F [[[p]]] own):zw8 b F 0 0 0=some p:=by
 have hk:F.groups.length=1:=by have:=zjq F.groups (b.drop 4);rw[h.pages] at this;exact this.symm
 have hl:=zp6 F.groups (b.drop 4);rw[h.pages] at hl;have hq:(za0 F.groups 0 0).length=1:=by
  obtain⟨g,hG⟩:=List.length_eq_one_iff.1 hk;unfold za0;rw[hG] at hl⊢;simp only[qmp,qmq,qli,and_true] at hl;have hg2:g.2.length=1:=by have:=congrArg List.length hl;simpa using this.symm
  obtain⟨l,hg⟩:=List.length_eq_one_iff.1 hg2;rw[hg] at hl;simp only[qmp,qmq,qli,and_true] at hl;show((g.2).getD 0 []).length=1;rw[hg];exact hl.symm
 have:=z1y (b:=b) h.foot (by have:=h.size;omega) (k:=0) (j:=0) (q:=0) (by omega) (by rw[h.cols];decide) (by omega);rw[h.pages] at this;exact this
def qav(n:Nat):List ze9:=[(some ⟨n+1,0,none⟩,1,[qat 5])]
theorem qh5(n:Nat):(qav n).map (·.2.2)=s1D:=rfl
theorem qer(W:World):TabIn W none 0 [] none []:=⟨qrs,by simp,by simp,by simp,qrs,by simp,by intro d hd;cases hd⟩
theorem qh6(n:Nat):∀d∈qav n,∀y∈d.2.2,CellFine y:=by intro d hd y hy;simp only[qav,qnu,qpt,or_false] at hd;subst hd;simp only[qnu,qpt,or_false] at hy;subst hy;unfold CellFine;simp[qat]
theorem qku(w:World):TabIn ((((w.alloc (.cells #[.string ⟨#[97]⟩,.int .i64 0,.bool false] 71)).alloc (.cells #[.bool false,.int .i64 5,.string ⟨#[]⟩,.int .i64 0,.int .i64 0] 75)).alloc (.cells #[.slice (some ⟨w.heap.size+1,0,none⟩) 1 1] 76)).alloc (.cells #[.slice (some ⟨w.heap.size,0,none⟩) 1 1,.int .i64 1,.slice (some ⟨w.heap.size+1+1,0,none⟩) 1 1] 56)) (some ⟨w.heap.size,0,none⟩) 1 s1L (some ⟨w.heap.size+1+1,0,none⟩) (qav w.heap.size)/\New w ((((w.alloc (.cells #[.string ⟨#[97]⟩,.int .i64 0,.bool false] 71)).alloc (.cells #[.bool false,.int .i64 5,.string ⟨#[]⟩,.int .i64 0,.int .i64 0] 75)).alloc (.cells #[.slice (some ⟨w.heap.size+1,0,none⟩) 1 1] 76)).alloc (.cells #[.slice (some ⟨w.heap.size,0,none⟩) 1 1,.int .i64 1,.slice (some ⟨w.heap.size+1+1,0,none⟩) 1 1] 56))/\Blk ((((w.alloc (.cells #[.string ⟨#[97]⟩,.int .i64 0,.bool false] 71)).alloc (.cells #[.bool false,.int .i64 5,.string ⟨#[]⟩,.int .i64 0,.int .i64 0] 75)).alloc (.cells #[.slice (some ⟨w.heap.size+1,0,none⟩) 1 1] 76)).alloc (.cells #[.slice (some ⟨w.heap.size,0,none⟩) 1 1,.int .i64 1,.slice (some ⟨w.heap.size+1+1,0,none⟩) 1 1] 56)) (w.heap.size+1+1+1) 56 #[.slice (some ⟨w.heap.size,0,none⟩) 1 1,.int .i64 1,.slice (some ⟨w.heap.size+1+1,0,none⟩) 1 1]:=by
 obtain⟨W1,h1⟩:∃W,W=w.alloc (.cells #[.string ⟨#[97]⟩,.int .i64 0,.bool false] 71):=⟨_,rfl⟩;obtain⟨W2,h2⟩:∃W,W=W1.alloc (.cells #[.bool false,.int .i64 5,.string ⟨#[]⟩,.int .i64 0,.int .i64 0] 75):=⟨_,rfl⟩;obtain⟨W3,h3⟩:∃W,W=W2.alloc (.cells #[.slice (some ⟨w.heap.size+1,0,none⟩) 1 1] 76):=⟨_,rfl⟩;obtain⟨W4,h4⟩:∃W,W=W3.alloc (.cells #[.slice (some ⟨w.heap.size,0,none⟩) 1 1,.int .i64 1,.slice (some ⟨w.heap.size+1+1,0,none⟩) 1 1] 56):=⟨_,rfl⟩;have e4:((((w.alloc (.cells #[.string ⟨#[97]⟩,.int .i64 0,.bool false] 71)).alloc (.cells #[.bool false,.int .i64 5,.string ⟨#[]⟩,.int .i64 0,.int .i64 0] 75)).alloc (.cells #[.slice (some ⟨w.heap.size+1,0,none⟩) 1 1] 76)).alloc (.cells #[.slice (some ⟨w.heap.size,0,none⟩) 1 1,.int .i64 1,.slice (some ⟨w.heap.size+1+1,0,none⟩) 1 1] 56))=W4:=by rw[h4,h3,h2,h1]
 rw[e4];have s1:W1.heap.size=w.heap.size+1:=by rw[h1,qrq]
 have s2:W2.heap.size=w.heap.size+1+1:=by rw[h2,qrq,s1]
 have s3:W3.heap.size=w.heap.size+1+1+1:=by rw[h3,qrq,s2]
 have b1:New w W1:=by rw[h1];exact zac _ _
 have b2:New W1 W2:=by rw[h2];exact zac _ _
 have b3:New W2 W3:=by rw[h3];exact zac _ _
 have b4:New W3 W4:=by rw[h4];exact zac _ _
 have b24:=qr0 b3 b4;have b14:=qr0 b2 b24;have r1:Reads W1 W1.heap.size 3 (some ⟨w.heap.size,0,none⟩) 1 (recs zl3 s1L):=by have:=qsh w 71 #[.string ⟨#[97]⟩,.int .i64 0,.bool false] 1 3 (recs zl3 s1L) rfl rfl;rw[<-h1] at this;exact this
 have r2:Reads W2 W2.heap.size 5 (some ⟨w.heap.size+1,0,none⟩) 1 (recs za4 [qat 5]):=by have:=qsh W1 75 #[.bool false,.int .i64 5,.string ⟨#[]⟩,.int .i64 0,.int .i64 0] 1 5 (recs za4 [qat 5]) rfl rfl;rw[s1,<-h2] at this;exact this
 have r3:Reads W3 W3.heap.size 1 (some ⟨w.heap.size+1+1,0,none⟩) 1 (recs zle (qav w.heap.size)):=by have:=qsh W2 76 #[.slice (some ⟨w.heap.size+1,0,none⟩) 1 1] 1 1 (recs zle (qav w.heap.size)) rfl rfl;rw[s2,<-h3] at this;exact this
 refine⟨⟨qsg r1 b14,by decide,by decide,by decide,qsg r3 b4,by simp[qav],?_⟩,qr0 b1 b14,?_⟩
 ·intro d hd
  simp only[qav,qnu,qpt,or_false] at hd;subst hd;exact⟨qsg r2 b24,show∀x∈[qat 5],x.2.2.1.length<=140737488351232/\ ∀z∈x.2.2.1,z<256 from by decide,by simp,by simp,by simp⟩
 ·have:=qrv W3 56 #[.slice (some ⟨w.heap.size,0,none⟩) 1 1,.int .i64 1,.slice (some ⟨w.heap.size+1+1,0,none⟩) 1 1]
  rw[s3,<-h4] at this;exact this
end Go.Proofs.Y
