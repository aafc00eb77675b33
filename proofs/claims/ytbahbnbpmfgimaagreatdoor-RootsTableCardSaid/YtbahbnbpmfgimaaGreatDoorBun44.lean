import Derived.Test.YtbahbnbpmfgimaaGreatDoorBun42
import Derived.Test.YtbahbnbpmfgimaaGreatDoorBun43
set_option maxHeartbeats 4000000
set_option maxRecDepth 100000
namespace Go.Proofs.Y
open Go.RowKit Go.Hm
theorem zvi{b:List Nat}{n:Int}(a:∀x∈b,x<256):∃o,IsDel b n o:=by
 by_cases h:n<0\/65536<n
 ·exact⟨none,z9e h⟩
 ·obtain⟨m,rfl⟩:=qsu (show 0<=n by omega)
  exact⟨_,qfh a⟩
theorem qhl{t n:Int}{b:List Nat}(k:∀x∈b,x<256)(r:b.length<=140737488355200)(u:n<=9223372036854775807):∃o,IsDic t b n o:=by
 have i:St.ok (some b):=qxp k;obtain⟨cnt,a,l⟩:∃cnt a,lenS n (some b)=(cnt,a):=⟨_,_,rfl⟩;have c:a.ok:=by have:=zbo (m:=n) i;rwa[l] at this
 obtain⟨h,f,p⟩:∃h f,lenS ((a.getD []).length:Int) a=(h,f):=⟨_,_,rfl⟩;have d:f.ok:=by have:=zbo (m:=((a.getD []).length:Int)) c;rwa[p] at this
 obtain⟨x,g,q⟩:∃x g,zcv (h:Int) f=(x,g):=⟨_,_,rfl⟩;have e:=zf8 (n:=(h:Int)) d;rw[q] at e;obtain⟨y,j,w⟩:∃y j,zcv ((g.getD []).length:Int) g=(y,j):=⟨_,_,rfl⟩;obtain⟨z,v⟩:=z0d (t:=t) (n:=(cnt:Int)) e.2;obtain⟨A,s⟩:=z27 (b:=y) (n:=n);exact⟨_,qfw k r u l p q v w s⟩
theorem z3e{t e:Int}{b:List Nat}{n:Int}(i:fitsV t e=true)(d:∀x∈b,x<256)(q:b.length<=140737488355200)(v:n<=9223372036854775807):∃o,IsVal t e b n o:=by
 unfold fitsV at i;have i:=of_decide_eq_true i;rcases i with⟨rfl|rfl,_⟩|⟨rfl,w⟩|⟨rfl,rfl|rfl⟩|⟨rfl,rfl⟩
 ·obtain⟨o,a⟩:=z0d (t:=t) (n:=n) d
  exact⟨o,z0e a⟩
 ·obtain⟨o,a⟩:=qhl (t:=t) d q v
  exact⟨o,z5s a⟩
 ·obtain⟨o,a⟩:=z27 (b:=b) (n:=n)
  exact⟨_,z5t w a⟩
 ·obtain⟨o,a⟩:=zvi (n:=n) d
  exact⟨_,z5u a⟩
 ·have l:St.ok (some b):=qxp d
  obtain⟨k,g,s⟩:∃k g,lenS (b.length:Int) (some b)=(k,g):=⟨_,_,rfl⟩;have f:g.ok:=by have:=zbo (m:=(b.length:Int)) l;rwa[s] at this
  obtain⟨x,h,u⟩:∃x h,zcv (k:Int) g=(x,h):=⟨_,_,rfl⟩;have c:=zf8 (n:=(k:Int)) f;rw[u] at c;obtain⟨B,y⟩:=zvi (n:=n) c.2;have p:∀z∈h.getD [],z<256:=fun z j=>by
   cases hS:h with
   |none=>rw[hS] at j;cases j
   |some r=>exact c.1 r hS z (by rw[hS] at j;exact j)
  obtain⟨C,A⟩:=zvi (n:=n) p;exact⟨_,qa3 d q s u rfl y A⟩
 ·exact⟨_,z5v d⟩
theorem St.ok_get{S:St}(h:S.ok):∀z∈S.getD [],z<256:=fun z a=>by
 cases hS:S with
 |none=>rw[hS] at a;cases a
 |some r=>exact h r hS z (by rw[hS] at a;exact a)
theorem qlq{t:Int}{nu:Bool}{b:List Nat}(s:∀x∈b,x<256)(C:b.length<=140737488351232):∃o,IsPg t nu b o:=by
 have v:St.ok (some b):=qxp s;obtain⟨e,i,r⟩:∃e i,zbn (some b)=(e,i):=⟨_,_,rfl⟩;have c:i.ok:=by have:=zo8 v;rwa[r] at this
 have z:(i.getD []).length<=b.length:=by have:=zwj (S:=some b);rwa[r] at this
 obtain⟨n,f,l⟩:∃n f,lenS 65536 i=(n,f):=⟨_,_,rfl⟩;have g:f.ok:=by have:=zbo (m:=65536) c;rwa[l] at this
 have A:(f.getD []).length<=(i.getD []).length:=by have:=zev (m:=65536) c;rwa[l] at this
 have D:(n:Int)<=65536:=by have:=zdo (m:=65536) i (by omega) c;rwa[l] at this
 cases nu with
 |false=>
  have j:∃p,fitsV t (e:Int)=true->IsVal t (e:Int) (f.getD []) (n:Int) p:=by
   by_cases k:fitsV t (e:Int)=true
   ·obtain⟨o,u⟩:=z3e (n:=(n:Int)) k (St.ok_get g) (by omega) (by omega)
    exact⟨o,fun _=>u⟩
   ·exact⟨none,fun h=>absurd h k⟩
  obtain⟨p,j⟩:=j;exact⟨_,qgu s r l rfl j⟩
 |true=>
  obtain⟨a,q,w⟩:∃a q,zcv (((n+7)/8:Nat):Int) f=(a,q):=⟨_,_,rfl⟩;have d:=zf8 (n:=(((n+7)/8:Nat):Int)) g;rw[w] at d;dsimp only at d;have B:(q.getD []).length<=(f.getD []).length:=by have:=z5b (n:=(((n+7)/8:Nat):Int)) f;rwa[w] at this
  have y:=(qhh (n:=(n:Int)) d.2).2;have j:∃p,fitsV t (e:Int)=true->IsVal t (e:Int) (q.getD []) (qgr (zch a 1 (n:Int))) p:=by
   by_cases k:fitsV t (e:Int)=true
   ·obtain⟨o,u⟩:=z3e (n:=qgr (zch a 1 (n:Int))) k (St.ok_get d.1) (by omega) (by omega)
    exact⟨o,fun _=>u⟩
   ·exact⟨none,fun h=>absurd h k⟩
  obtain⟨p,j⟩:=j;exact⟨_,qgv s r l w rfl j⟩
theorem qlr{t:Int}{nu:Bool}{e:Int}{l:List zab}{b:List Nat}(a:∀c∈l,zaj c)(h:pgE t nu e l=(0,b)):IsPg t nu b (some l):=by obtain⟨o,d⟩:=qlq (t:=t) (nu:=nu) (qi8 a h) (by have:=zvh a h;omega);have:=d.compl l a ⟨_,(zol h).2.2.2.1,qgt h⟩;rwa[this] at d
noncomputable def zyh(F:FootS)(b:List Nat):List (List Nat):=(ze9 F.groups (b.drop 4)).flatten.flatten
noncomputable def qcn(b:List Nat):Option (FootS × List (List zab)):=
 match openO b with
 |none=>none
 |some x=>match qpf x.1 (zyh x.1 b) with
  |none=>none
  |some C=>some (x.1,C)
theorem z3j{n:Nat}:∀{C:List (List za3)},(∀l∈C,l.length<=n)->C.flatten.length<=C.length*n
 | [],_=>by simp
 |l::C,h=>by
  have h1:=h l (by simp);have b:=z3j (C:=C) fun q a=>h q (by simp[a])
  rw[qvg,qrp,qr1,qsv];omega
theorem z3k{cols:List za2}(e:cols.length<=64):∀{G:List za6} (x:List Nat),(∀g∈G,GroupOk cols g)->((ze9 G x).flatten.flatten.length:Int)<=64*(G.map (·.1)).sum
 | [],x,_=>by simp[ze9]
 |g::G,x,h=>by
  obtain⟨h1,h2,h3⟩:=h g (by simp);have r:=z3k e (G:=G) (x.drop (szC g.2)) fun q m=>h q (by simp[m])
  obtain⟨n,k⟩:=qsu (show 0<=g.1 by omega);have d:∀l∈g.2,l.length<=n:=fun l j=>by obtain⟨i,f,rfl⟩:=qtv j;obtain⟨a,b⟩:=h3 i (by omega);rw[qsh,qqt f] at a b;have c:=zfy a;simp only[qsi] at c b;omega
  have o:=z3j d;have p:g.2.length*n<=64*n:=qqz _ (by omega);rw[ze9,qvg,qul,qrp,zmv,qrj,qt7,k];omega
theorem z61{F:FootS}(h:zbs F)(b:List Nat):(zyh F b).length<=4194304:=by have a:=z3k h.1.1 (b.drop 4) h.2.1;have c:=h.2.2.1;have d:=h.2.2.2.1;unfold zyh;omega
section
variable{L:List za2}{E:List Int}{D:List (List zab)}{pr:Int}
def pgF(L:List za2)(E:List Int)(D:List (List zab))(c:Nat)(q:Int × Int):List Nat:=(zg1 L E D c q).2
def zkr(L:List za2)(E:List Int)(D:List (List zab))(l:List (Int × Int))(cs:List Nat):List (List (List Nat)):=cs.map fun c=>l.map (pgF L E D c)
def zhm(L:List za2)(E:List Int)(D:List (List zab))(pr:Int)(l:List (Int × Int)):List (List (List (List Nat))):=l.map fun s=>zkr L E D (zbl s.1 s.2 pr) (List.range L.length)
theorem z3l{c:Nat}:∀(l:List (Int × Int)) {y x:List (List Nat) × Int},chW L E D c (some y) l=some x->x.1=y.1++l.map (pgF L E D c)/\ ∀q∈l,(zg1 L E D c q).1=0
 | [],y,x,h=>by
   injection h with h;subst h;simp
 |q::l,y,x,h=>by
  have e:chW L E D c (some y) (q::l)=chW L E D c (pgW L E D c (some y) q) l:=rfl;rw[e] at h;cases a:pgW L E D c (some y) q with
  |none=>rw[a,zkp] at h;cases h
  |some z=>
   rw[a] at h;obtain⟨d,f⟩:=z3l l h;unfold pgW at a;dsimp only at a;split at a
   ·rename_i g
    injection a with a;subst a;refine⟨by rw[d];simp[pgF],fun i b=>?_⟩;rcases qsm.1 b with rfl|b
    ·exact g.1
    ·exact f _ b
   ·cases a
theorem z3m{s:Int × Int}:∀(k:Nat) {y x:List (List Nat) × Int},gpW L E D pr s (some y) k=some x->x.1=y.1++(zkr L E D (zbl s.1 s.2 pr) (List.range k)).flatten/\ ∀c,c<k-> ∀q∈zbl s.1 s.2 pr,(zg1 L E D c q).1=0
 |0,y,x,h=>by
  injection h with h;subst h;simp[zkr]
 |k+1,y,x,h=>by
  rw[gpW] at h;cases hp:gpW L E D pr s (some y) k with
  |none=>rw[hp,zkp] at h;cases h
  |some z=>
   rw[hp] at h;obtain⟨h1,h2⟩:=z3l _ h;obtain⟨d,e⟩:=z3m k hp;refine⟨by rw[h1,d,quo];simp[zkr],fun c f q b=>?_⟩;rcases qq4 c k with a|a
   ·exact e c a q b
   ·obtain rfl:c=k:=by omega
    exact h2 q b
theorem zyi:∀(l:List (Int × Int)) {y x:List (List Nat) × Int},l.foldl (grW L E D pr) (some y)=some x->x.1=y.1++(zhm L E D pr l).flatten.flatten/\ ∀s∈l,∀c,c<L.length-> ∀q∈zbl s.1 s.2 pr,(zg1 L E D c q).1=0
 | [],y,x,h=>by
   injection h with h;subst h;simp[zhm]
 |s::l,y,x,h=>by
  rw[quv] at h;cases hp:grW L E D pr (some y) s with
  |none=>rw[hp,zrm] at h;cases h
  |some z=>
   rw[hp] at h;obtain⟨h1,h2⟩:=zyi l h;obtain⟨b,d⟩:=z3m _ hp;refine⟨by rw[h1,b];simp[zhm],fun e a=>?_⟩;rcases qsm.1 a with rfl|a
   ·exact d
   ·exact h2 _ a
theorem qi9(c:Nat):∀(l:List (Int × Int)) (r:List Nat),z52 (l.map (zcw L E D c)) ((l.map (pgF L E D c)).flatten++r)=l.map (pgF L E D c)/\(l.map (pgF L E D c)).flatten.length=szL (l.map (zcw L E D c))
 | [],r=>⟨rfl,rfl⟩
 |q::l,r=>by
  obtain⟨h1,h2⟩:=qi9 c l r;have e:(zcw L E D c q).1.toNat=(pgF L E D c q).length:=by unfold zcw pgF;simp
  rw[qrj,qrj,z52,qvg,qrc,e,List.take_left,qv8,h1,zmq,e,qrp,h2];exact⟨rfl,rfl⟩
theorem qja(l:List (Int × Int)):∀(cs:List Nat) (r:List Nat),zck (cs.map fun c=>l.map (zcw L E D c)) ((zkr L E D l cs).flatten.flatten++r)=zkr L E D l cs/\(zkr L E D l cs).flatten.flatten.length=szC (cs.map fun c=>l.map (zcw L E D c))
 | [],r=>⟨rfl,rfl⟩
 |c::cs,r=>by
  obtain⟨h1,h2⟩:=qja l cs r;obtain⟨b,a⟩:=qi9 (L:=L) (E:=E) (D:=D) c l ((zkr L E D l cs).flatten.flatten++r);have e:zkr L E D l (c::cs)=l.map (pgF L E D c)::zkr L E D l cs:=rfl;rw[e,qrj,zck,qvg,qul,qrc,b,<-a,qv8,h1,zmr,<-a,qrp,h2];exact⟨rfl,rfl⟩
theorem qcp:∀(l:List (Int × Int)) (r:List Nat),ze9 (l.map (zdb L E D pr)) ((zhm L E D pr l).flatten.flatten.flatten++r)=zhm L E D pr l/\(zhm L E D pr l).flatten.flatten.flatten.length=szG (l.map (zdb L E D pr))
 | [],r=>⟨rfl,rfl⟩
 |s::l,r=>by
  obtain⟨h1,h2⟩:=qcp l r;obtain⟨d,b⟩:=qja (L:=L) (E:=E) (D:=D) (zbl s.1 s.2 pr) (List.range L.length) ((zhm L E D pr l).flatten.flatten.flatten++r);have e:zhm L E D pr (s::l)=zkr L E D (zbl s.1 s.2 pr) (List.range L.length)::zhm L E D pr l:=rfl;have a:(zdb L E D pr s).2=(List.range L.length).map fun c=>(zbl s.1 s.2 pr).map (zcw L E D c):=rfl
  rw[e,qrj,ze9,a,qvg,qul,qul,qrc,d,<-b,qv8,h1,zms,a,<-b,qrp,h2];exact⟨rfl,rfl⟩
theorem qph{c:Nat}{q:Int × Int}(a:∀y∈zak D c q,zaj y)(h:(zg1 L E D c q).1=0):SheOk (L.getD c zeo).2.1 (L.getD c zeo).2.2 (zcw L E D c q) (pgF L E D c q) (zak D c q):=
 ⟨qlr a (show pgE _ _ _ _=(0,pgF L E D c q) from qug h rfl),rfl,rfl,zko _ _⟩
theorem qn0{c:Nat}:∀(l:List (Int × Int)) (C:List (List zab)) (R:List (List Nat)),c<C.length->(∀q∈l,(∀y∈zak D c q,zaj y)/\(zg1 L E D c q).1=0)->
 chT (L.getD c zeo) c (some (C,l.map (pgF L E D c)++R)) (l.map (zcw L E D c))=some (C.set c (C.getD c []++(l.map (zak D c)).flatten),R)
 | [],C,R,hc,_=>by
   simp only[qrk,qv0,qra,qrr];rw[zvj hc];rfl
 |q::l,C,R,hc,h=>by
  have h0:=h q (by simp);have e:chT (L.getD c zeo) c (some (C,(q::l).map (pgF L E D c)++R)) ((q::l).map (zcw L E D c))=chT (L.getD c zeo) c (pgT (L.getD c zeo) c (some (C,pgF L E D c q::(l.map (pgF L E D c)++R))) (zcw L E D c q)) (l.map (zcw L E D c)):=rfl;rw[e,qnv (qph h0.1 h0.2),qn0 l _ R (by rw[qq3];exact hc) (fun b a=>h b (by simp[a]))];rw[List.set_set,qsh (l:=List.set _ _ _),qv1 hc,qsi,qrc,qrj,qvg]
theorem qjb(l:List (Int × Int)):∀(m j:Nat) (C:List (List zab)) (R:List (List Nat)),j+m<=C.length->(∀c,c<j+m-> ∀q∈l,(∀y∈zak D c q,zaj y)/\(zg1 L E D c q).1=0)->
 ∃C',qos L j ((List.range' j m).map fun c=>l.map (zcw L E D c)) (some (C,(zkr L E D l (List.range' j m)).flatten++R))=some (C',R)/\C'.length=C.length/\ ∀i,C'.getD i []=if j<=i/\i<j+m then C.getD i []++(l.map (zak D i)).flatten else C.getD i []
 |0,j,C,R,_,_=>⟨C,rfl,rfl,fun i=>by rw[if_neg (by omega)]⟩
 |m+1,j,C,R,hj,h=>by
  have e:zkr L E D l (List.range' j (m+1))=l.map (pgF L E D j)::zkr L E D l (List.range' (j+1) m):=rfl;have b:((List.range' j (m+1)).map fun c=>l.map (zcw L E D c))=l.map (zcw L E D j)::((List.range' (j+1) m).map fun c=>l.map (zcw L E D c)):=rfl;obtain⟨C',f,g,k⟩:=qjb l m (j+1) (C.set j (C.getD j []++(l.map (zak D j)).flatten)) R (by rw[qq3];omega) (fun c o=>h c (by omega));refine⟨C',?_,by rw[g,qq3],fun i=>?_⟩
  ·rw[e,b,qvg,qrc,qos,qn0 l C _ (by omega) (h j (by omega))]
   exact f
  ·rw[k]
   by_cases n:i=j
   ·subst n
    rw[if_neg (by omega),if_pos (by omega),qsh (l:=List.set _ _ _),qv1 (by omega),qsi]
   ·have d:(C.set j (C.getD j []++(l.map (zak D j)).flatten)).getD i []=C.getD i []:=by
     rw[qsh,qv2 (by omega),<-qsh]
    rw[d];by_cases a:j+1<=i/\i<j+1+m
    ·rw[if_pos a,if_pos (by omega)]
    ·rw[if_neg a,if_neg (by omega)]
theorem qn1:∀(l:List (Int × Int)) (C:List (List zab)) (R:List (List Nat)),C.length=L.length->(∀s∈l,∀c,c<L.length-> ∀q∈zbl s.1 s.2 pr,(∀y∈zak D c q,zaj y)/\(zg1 L E D c q).1=0)->
 ∃C',(l.map (zdb L E D pr)).foldl (grT L) (some (C,(zhm L E D pr l).flatten.flatten++R))=some (C',R)/\C'.length=L.length/\ ∀i,i<L.length->C'.getD i []=C.getD i []++(l.map fun s=>((zbl s.1 s.2 pr).map (zak D i)).flatten).flatten
 | [],C,R,hC,_=>⟨C,rfl,hC,fun i _=>by simp⟩
 |s::l,C,R,hC,h=>by
  have e:zhm L E D pr (s::l)=zkr L E D (zbl s.1 s.2 pr) (List.range L.length)::zhm L E D pr l:=rfl;have d:(zdb L E D pr s).2=(List.range L.length).map fun c=>(zbl s.1 s.2 pr).map (zcw L E D c):=rfl
  obtain⟨b,g,r,j⟩:=qjb (L:=L) (E:=E) (D:=D) (zbl s.1 s.2 pr) L.length 0 C ((zhm L E D pr l).flatten.flatten++R) (by omega) (fun c t=>h s (by simp) c (by omega));obtain⟨C',k,m,n⟩:=qn1 l b R (by omega) (fun p a=>h p (by simp[a]));refine⟨C',?_,m,fun i o=>?_⟩
  ·rw[e,qvg,qul,qrc,qrj,quv]
   have f:grT L (some (C,(zkr L E D (zbl s.1 s.2 pr) (List.range L.length)).flatten++((zhm L E D pr l).flatten.flatten++R))) (zdb L E D pr s)=some (b,(zhm L E D pr l).flatten.flatten++R):=by unfold grT;rw[d,List.range_eq_range'];exact g
   rw[f,k]
  ·rw[n i o,j,if_pos (by omega),qrj,qvg,qrc]
end
theorem zru(l:List zab){f t s:Nat}(b:0<s):∀k,k<=ziy f t s->(((zhb f t s).take k).map fun q=>(l.drop q.1.toNat).take (q.2-q.1).toNat).flatten=(l.drop f).take (atN f t s k-f)
 |0,_=>by simp[atN];omega
 |k+1,hk=>by
  have ih:=zru l (f:=f) (t:=t) b k (by omega);have a:=(zhc (f:=f) (t:=t) b k).1 (by omega);obtain⟨c,i,d⟩:=z2q a;have h:f<=atN f t s k:=by rw[c];omega
  rw[zq0 (f:=f) (t:=t) (s:=s) (k:=k) (by omega),que,qul,ih,d];simp only[qrj,qrk,qvg,qv0,qra,qrn];have e:(((atN f t s (k+1):Nat):Int)-((atN f t s k:Nat):Int)).toNat=atN f t s (k+1)-atN f t s k:=by omega
  have g:atN f t s (k+1)-f=(atN f t s k-f)+(atN f t s (k+1)-atN f t s k):=by omega
  rw[e,g,qu3,qth];congr 3
  omega
theorem zrv(l:List zab){f t:Nat}{s:Int}(h:f<=t)(c:t<=65536)(g:1<=s):((zbl (f:Int) (t:Int) s).map fun q=>(l.drop q.1.toNat).take (q.2-q.1).toNat).flatten=(l.drop f).take (t-f):=by
 obtain⟨n,rfl⟩:=qsu (show 0<=s by omega);rcases qq4 f t with a|b
 ·rw[z2r a c (by omega)]
  have:=zru l (f:=f) (t:=t) (s:=n) (by omega) (ziy f t n) (qq0 _);have e:(zhb f t n).take (ziy f t n)=zhb f t n:=qru (by rw[zgh];exact qq0 _);rw[e] at this;rw[this];congr 1
  have d: ¬(f+ziy f t n*n<t):=fun q=>by have:=(zhc (f:=f) (t:=t) (s:=n) (by omega) (ziy f t n)).2 q;omega
  unfold atN;omega
 ·rw[zxb (by omega)]
  have:t-f=0:=by omega
  rw[this];simp
theorem zvn{f t:Nat}{s:Int}{q:Int × Int}(h:q∈zbl (f:Int) (t:Int) s):∃a b:Nat,q=((a:Int),(b:Int))/\f<=a/\a<=b/\b<=t:=by
 unfold zbl at h;split at h
 ·cases h
 ·rename_i d
  unfold zhb at h;obtain⟨i,c,rfl⟩:=qqu.1 h;rw[qtn] at c;have:=(zhc (f:=(f:Int).toNat) (t:=(t:Int).toNat) (s:=s.toNat) (by omega) i).1 c;refine⟨_,_,rfl,?_,?_,?_⟩
  ·omega
  ·rw[qsv];omega
  ·omega
theorem qc7{w:World}{base g:Nat}{V:Value}{F:List (List Nat)}(hL:LogOf tL w base g V F)(j7:base<=w.heap.size){A:Option Addr}{cb:Nat}{b:List Nat}
 (hb:Reads w w.heap.size 1 A b.length (zar .u8 b))(h8:∀x∈b,x<256)(M:zse b)(hc:b.length<=cb)(N:cb<=9223372036854775807)(B:0<b.length-> ∀ad,A=some ad->ad.block∉g::zbt V)(hF:F.length<=1000000)(hG:∀w',Turns (g::zbt V) w w'->GlobIn w'):
 Calls Tryz.prog 23 #[.pointer (some ⟨g,0,none⟩),.slice A b.length cb] w (qjh b base g V F w):=by
 obtain⟨W0,b7⟩:∃W,W=w.alloc (.cells (za5 .u8 zau).toArray 35):=⟨_,rfl⟩;have n0:New w W0:=by rw[b7];exact zai _ _
 have G0:Blk W0 w.heap.size tD (za5 .u8 zau).toArray:=by rw[b7];exact qw1 _ _ _
 have O:=qwk (z3i (w:=W0) (c:=cb) (qxj hb n0) h8 M.1 hc N);have HW:=qwk b7;have HL:=qwk hL;have e6:=qwk (show g<w.heap.size from hL.lt);have HB:=qwk (qtc hb (qtc h8 (qtc M (qtc hc (qtc N B)))));have i3:=qwk (fun F' s (h:openO b=some (F',s))=>zga h8 M.1 h);have HG:=qwk hG;have k9:=qwk j7;have e4:=qwk hF;have N0:=qwk n0;have e5:=qwk G0;unfold qjh;obtain⟨cs,g4,D,ZS,b3,j9⟩:=zg7 (zhf b);rw[g4];have d9:=qwk (fun(h:openO b=none)=>z3v h);have e0:=qwk (fun F' s (h:openO b=some (F',s))=>qc6 h);have d4:=qwk g4;have d3:=qwk j9;generalize zvw b=rd at*;generalize zyx b=er at*;generalize zpp b=fr at*;have D:=qwk D;have ZS:=qwk ZS;have b3:=qwk b3;obtain⟨X,m⟩:∃X,X=openO b:=⟨_,rfl⟩;have m:=qwk m.symm;clear g4 j9;clear b7 hL hb h8 hc N B hG j7 hF n0 G0;go_enter Tryz.func23,Tryz.ntmps23
 go_wp2_with fail
 rw[show w.alloc (.cells qxy 35)=W0 from HW.out.symm];refine O.out.mono ?_;rintro e W1 ⟨b1,n⟩;rw[m.out] at n;have I:=qw5 N0.out b1;have G1:=qwk (e5.out.below b1 e5.out.lt);have L1:=qwk (HL.out.new I);clear O e5;cases X with
 |none=>
  obtain rfl:=n;obtain⟨e1,J,e3⟩:=d9.out m.out;subst J;subst e3;have PS:=qwk (fun(W:World) (n2:New W1 W)=>qtc (za1 (G1.out.below n2 G1.out.lt)) (qtc (zbi (G1.out.below n2 G1.out.lt) cs) (zdu e6.out (L1.out.new n2) (.inl rfl) (qxe (qw5 I n2)) (G1.out.below n2 G1.out.lt) cs)));have hz:(.agg qxy:Value)= .agg cs:=by rw[d3.out,e1];rfl
  have HZ:=qwk hz;clear m hz e1 d3 d9 e0 d4;go_wp2_with (first
   |(refine zal rfl 79 (.tmp 6) (.tmp 18) rfl W1.heap.size _ rfl rfl (qw1 W1 79 #[.slice none 0 0,.int .i64 0,.slice none 0 0]) (by kernel_rfl) rfl (by simp[Value.oneCell']) ?_
     intro W2 BF G2;have b2:New W1 W2:=zbg ((qwd _ _).alloc (qq0 _) _) G2 (qq0 _) (qq0 _);have d2:=qwk b2;clear BF G2 b2)
   |(refine wpList_store_row rfl 35 (.tmp 4) (.tmp 23) rfl w.heap.size cs rfl HZ.out _ _ (PS.out W2 d2.out).1 D.out ZS.out b3.out ?_))
  exact bodyPost_ret (zia rfl _ _ w.heap.size _ cs (0,0) _ rfl (PS.out W2 d2.out).2.1 zct rfl D.out) rfl ⟨rfl,by rw[qra];exact(PS.out W2 d2.out).2.2⟩
 |some x=>
  obtain⟨F',s⟩:=x;obtain⟨Ac,cc,L,r,Ag,cg,G,A1,m1,c1,rfl,f9,FI,m7,o1⟩:=n;dsimp only at f9 o1;obtain⟨f1,f2,f3,f4,f5,f6,f7⟩:=i3.out F' s m.out;obtain⟨hb,h8,g5,hc,N,B⟩:=HB.out;obtain⟨k1,k2,k3⟩:=g5.2 F' s m.out;obtain⟨q1,q2,q3,P⟩:=zve b f1;have M:=g5.1;obtain⟨e1,J,e3⟩:=e0.out F' s m.out;subst e1;unfold zrh at J;unfold zo1 at e3;rw[<-f9] at f1 f5 k2 k3 q1 q3 P J e3;have j5:(zb0 L r G).groups=G.map grP:=rfl;rw[j5] at f5 k2 k3 q1 q3 P J e3;have hs:4+szG (G.map grP)<=b.length:=by omega
  have CU:=fun(W:World) (hW:New W1 W)=>z04 (r:=r) (cc:=cc) (cg:=cg) (qxj hb (qw5 I hW)) M hc N (FI.later hW) f1 hs
  unfold SheCutPostA at CU;have CU:=qwk CU;have HP:Hid (∀X∈ze9 (G.map grP) (b.drop 4),∀x∈X,∀p∈x,(∀y∈p,y<256)/\p.length<=b.length/\p.length<=9000000):=qwk (by intro X m x hx p hp;have hm:=qvh.2 ⟨x,qvh.2 ⟨X,m,hx⟩,hp⟩;exact⟨fun y hy=>h8 y (qte ((zkj hm).1 y hy)),((P X m).2 x hx).2 p hp,k3 p hm⟩)
  have l6:=qwk (fun X m=>(P X m).1);have m0:=qwk (fun X m x hx=>((P X m).2 x hx).1);have k5:wA (ze9 (G.map grP) (b.drop 4))<=5065536:=by omega
  generalize ze9 (G.map grP) (b.drop 4)=l at*;have f0:=qwk k5;rw[J] at d4;have l0:=qwk e3;have e8:=qwk q3;have O1:=qwk o1;have i6:=qwk (qtc f7 k1);unfold zmp at CU⊢;clear J e3 d3 d9 e0;clear f1 f2 f3 f4 f5 f6 f7 m i3 hb h8 g5 hc N k1 k2 k3 q1 q2 q3 P M f9 j5 hs FI m7 B k5 o1
  go_upto_region 2 with(refine zal rfl 79 (.tmp 6) (.tmp 18) rfl W1.heap.size _ rfl rfl (qw1 W1 79 #[.slice none 0 0,.int .i64 0,.slice none 0 0]) (by kernel_rfl) rfl (by simp[Value.oneCell']) ?_
                        intro W2 BF G2;have b2:New W1 W2:=zbg ((qwd _ _).alloc (qq0 _) _) G2 (qq0 _) (qq0 _);obtain⟨x0,x1,x2⟩:=zan BF;clear G2)
  go_wp2_with fail
  refine(CU.out W2 b2).mono ?_;rintro e w4 ⟨AX,XR,rfl,b4,⟨RX,j0⟩,i9,b8⟩;have k8:=BF.below b4 BF.lt;have U:=qw5 b2 b4;have b5:=qw5 I U;have L4:=L1.out.new U;have G4:=G1.out.below U G1.out.lt;have O4:=qwk (O1.out.later U);have c0:∀x∈g::zbt V,x<w.heap.size:=fun x hx=>by
   rcases qsm.1 hx with rfl|hx
   ·exact e6.out
   ·exact(HL.out.ge x hx).2
  have k4:w.heap.size<=W2.heap.size:=qqs I.size b2.size;have m3:=qwk (fun(W:World) (k:Turns (g::zbt V) w4 W)=>zhs RX k (fun _ ad ha hm=>by have:=j0 ad ha;have:=c0 _ hm;omega));have g2:=congrArg List.length b8;rw[qtl] at g2;have n7:XR.length<=65536:=by have:=e8.out;omega
  have i5:Hid (∀q∈XR,q.2.1=q.2.2.length/\(∀W,Turns (g::zbt V) w4 W->Reads W W.heap.size 1 q.1 q.2.2.length (recs zri q.2.2))/\ ∀r∈q.2.2,r.2.1=r.2.2.length/\DataF w4 r.1 r.2.2 (g::zbt V)):=qwk (by
   intro q hq;obtain⟨h1,h2,h3⟩:=i9 q hq;refine⟨h1,fun W k=>zhs h2.1 k (fun _ ad ha hm=>by have:=h2.2 ad ha;have:=c0 _ hm;omega),fun r hr=>?_⟩;obtain⟨h4,h5,h6⟩:=h3 r hr;have m9:gpP q∈l:=by rw[<-b8];exact qqu.2 ⟨q,hq,rfl⟩
   have n1:rwP r∈gpP q:=qqu.2 ⟨r,hr,rfl⟩;refine⟨h4,qc5 (w:=w) c0 HB.out.2.2.2.2.2 ⟨h5.1,fun ad ha=>qqs k4 (h5.2 ad ha)⟩ h6 (fun d hd=>?_)⟩;exact HP.out _ m9 _ n1 d.2.2 (qqu.2 ⟨d,hd,rfl⟩))
  have m2:=qwk b8;have i8:=qwk g2;have S4:Hid (ChSt w4 base g V (.slice none 0 0) (F++((l.take 0).flatMap zqb)) ((l.take 0).map znj) w4):=qwk (by simpa using ChSt.first L4);have i4:=qwk L4;have i0:=qwk G4;have c4:=qwk b5;have b0:=qwk (fun w' (t:Turns (g::zbt V) w4 w')=>HG.out w' ((qxe b5).trans t));have z:=qwk (qqs k9.out b5.size);clear CU x0 x1 x2 BF b2 b4 k8 U b5 L4 G4 L1 G1 O1 c0 k4 RX j0 i9 b8 g2 HP HB HW HL b1 I;go_wp2_with fail
  go_loopw [9,29] (fun v i wr=>∃k:Nat,k<=XR.length/\i= .int .i64 (k:Int)/\Hid (ChSt w4 base g V v (F++((l.take k).flatMap zqb)) ((l.take k).map znj) wr)) (fun _ i _=>XR.length-(intOf i).toNat)
  case atStart=>exact⟨0,qq1 _,rfl,S4⟩
  case round=>
   obtain⟨k,hk,rfl,S5⟩:=hrel;clear S4;by_cases c3:k<XR.length
   ·obtain⟨V5,l5,a5,t5,o5⟩:=S5.out
    obtain⟨ax,rfl,_,_,a0⟩:=(m3.out _ t5).rec_ (f:=zxy) (sz:=1) (fun _=>rfl) (none,0,[]) c3 (by omega);have a0:=a0 0 _ rfl;rw[qq7,quc] at a0;obtain⟨h1,h2,h3⟩:=i5.out _ (zah _ c3);have b9:gpP (XR.getD k (none,0,[]))=l.getD k []:=by rw[<-m2.out,zbm gpP XR (none,0,[]) [] c3]
    have a4:k<l.length:=by rw[<-i8.out];exact c3
    have g3:=zah [] a4;have k7:=l6.out _ g3;have g6:=m0.out _ g3;have e1:(l.take (k+1)).flatMap zqb=(l.take k).flatMap zqb++zqb (l.getD k []):=by rw[zac l k [] a4,quf];simp
    have J:(l.take (k+1)).map znj=(l.take k).map znj++[znj (l.getD k [])]:=by rw[zac l k [] a4,que];rfl
    have w1:=qli a4;have w2:=qo9 l (k+1);have w3:=zi0 (l.take k);have b6:(F++(l.take k).flatMap zqb).length+wG (l.getD k [])<=7000000:=by have:=f0.out;have:=e4.out;rw[qrp];omega
    have j2:F++(l.take (k+1)).flatMap zqb=(F++(l.take k).flatMap zqb)++zqb (l.getD k []):=by rw[e1,qrc]
    have g1:((l.take k).map znj).length<=65536:=by rw[qtl,qqx];omega
    have d5:=qwk j2;have d6:=qwk J;obtain⟨C,c7⟩:∃C,C=F++(l.take k).flatMap zqb:=⟨_,rfl⟩;obtain⟨Pk,d0⟩:∃Pk,Pk=(l.take k).map znj:=⟨_,rfl⟩;obtain⟨X,j6⟩:∃X,X=l.getD k []:=⟨_,rfl⟩;rw[<-c7] at b6 l5 S5 d5;rw[<-d0] at S5 d6 g1 o5;rw[<-j6] at b6 d5 d6 b9 k7 g6;generalize XR.getD k (none,0,[])=q at*;obtain⟨ga,gc,gl⟩:=q;dsimp only at a0 h1 h2 h3;have k0:gl.length=X.length:=by rw[<-b9];unfold gpP;rw[qtl]
    have l1:=qwk b9;have H2:=qwk h2;have H3:=qwk h3;have h9:=qwk b6;have l4:=qwk g1;have HN:=qwk g6;have L5:=qwk l5;have A5:=qwk a5;have T5:=qwk t5;have c5:=qwk k0;have m8:gl.length<=64:=by omega
    have o0:(k:Int)<(XR.length:Int):=by omega
    clear b9 g3 a4 e1 J j2 w1 w2 w3 c7 d0 j6 h1 h2 h3 b6 g1 k7 g6 l5 a5 t5 o5 k0;go_wp2_with fail
    clear a0;generalize wr=w5 at*;have S6:Hid (ChSt w5 base g V5 (.slice none 0 0) (C++(X.take 0).flatMap (ovF zcp)) ((X.take 0).map (ovD zcp)) w5):=qwk (by simpa using ChSt.first L5.out);go_loopw [12,35] (fun v i wr=>∃j:Nat,j<=gl.length/\i= .int .i64 (j:Int)/\Hid (ChSt w5 base g V5 v (C++(X.take j).flatMap (ovF zcp)) ((X.take j).map (ovD zcp)) wr)) (fun _ i _=>gl.length-(intOf i).toNat)
    case atStart=>exact⟨0,qq1 _,rfl,S6⟩
    case round=>
     obtain⟨j,hj,rfl,S7⟩:=hrel;clear S6;by_cases c2:j<gl.length
     ·obtain⟨V7,l7,a7,t7,o7⟩:=S7.out
      have u:=zbw T5.out A5.out t7;have E:=zgq T5.out.size A5.out a7;obtain⟨ac,rfl,_,_,a1⟩:=(H2.out _ u).rec_ (f:=zri) (sz:=1) (fun _=>rfl) (none,0,[]) c2 (by omega);have a1:=a1 0 _ rfl;rw[qq7,quc] at a1;obtain⟨i1,i2⟩:=H3.out _ (zah _ c2);have a3:j<X.length:=by rw[<-c5.out];exact c2
      have a6:rwP (gl.getD j (none,0,[]))=X.getD j []:=by rw[<-l1.out];exact(zbm rwP gl (none,0,[]) [] c2).symm
      have k6:=HN.out _ (zah [] a3);have e1:C++(X.take (j+1)).flatMap (ovF zcp)=(C++(X.take j).flatMap (ovF zcp))++ovF zcp (X.getD j []):=by rw[zac X j [] a3,quf,qrc];simp
      have J:(X.take (j+1)).map (ovD zcp)=(X.take j).map (ovD zcp)++[ovD zcp (X.getD j [])]:=by rw[zac X j [] a3,que];rfl
      have K:(C++(X.take j).flatMap (ovF zcp)).length+2*(X.getD j []).length<=8000000:=by have q1:=znz (X.take j);have q2:=qlj a3;have q3:=qpa X (j+1);have P:=h9.out;unfold wG at P;rw[qqx] at q1;rw[qrp];omega
      have g0:((X.take j).map (ovD zcp)).length<=65536:=by rw[qtl,qqx];omega
      have d7:=qwk e1;have d8:=qwk J;obtain⟨F7,c6⟩:∃F7,F7=C++(X.take j).flatMap (ovF zcp):=⟨_,rfl⟩;obtain⟨P7,c8⟩:∃P7,P7=(X.take j).map (ovD zcp):=⟨_,rfl⟩;rw[<-c6] at S7 d7 K l7;rw[<-c8] at S7 d8 g0 o7;obtain⟨x,hx⟩:∃x,x=X.getD j []:=⟨_,rfl⟩;rw[<-hx] at a6 k6 d7 d8 K;generalize gl.getD j (none,0,[])=r9 at*;obtain⟨ra,rc,rl⟩:=r9;dsimp only at a1 i1 i2 a6;have n3:rl.length=x.length:=by rw[<-a6];unfold rwP;rw[qtl]
      have CH:=qc2 (c:=rc) l7 (qqs z.out (qqs T5.out.size t7.size)) (i2.turn u (fun y hy hm=>zue hm hy E)) (by omega) (fun w' t=>b0.out w' (zbw u E t));rw[show rl.map (·.2.2)=x from a6] at CH;have a2:=zni zcp x;generalize ovD zcp x=d at*;generalize ovF zcp x=fd at*;have R:Hid (Digs [d]):=qwk (fun y hy=>by obtain rfl:=qr6.1 hy;exact a2);have CH:=qwk CH;have l3:=qwk g0;have e7:=qwk l7;have n9:(j:Int)<(gl.length:Int):=by omega
      clear a2 a6 n3 i1 i2 K g0 k6 hx c6 c8 e1 J a3 l7 a7 t7 o7 u E;go_wp2_with fail
      refine CH.out.mono ?_;rintro e w8 ⟨rfl,V8,l8,a8,Q⟩;have S8:=S7.out.turn e7.out l8 a8 Q;have n8:=zai w8 (.cells (recs zi6 [d]).toArray 35);have S9:=qwk (S8.new n8);obtain⟨_,_,_,t9,o9⟩:=S9.out;have O9:=qwk o9;have LV:=qwk (zsq (w:=w8) R.out (T:=[]) (by simp)).row;have B9:=qwk t9.size;clear S8 n8 o9 t9 l8 a8 Q CH a1;go_wp2_with (first
       |(refine zp9 rfl 1 _ rfl [d] R.out rfl (by omega) (by omega) (by rw[qrj,qrk,qum];rfl) ?_)
       |(refine zrx rfl (.tmp 39) (.tmp 43) rfl O9.out LV.out rfl rfl B9.out (by have:=l3.out;rw[qu0];omega) ?_
         intro A9 c9 n4 _ _ o Y;rw[<-zbe] at o;have S:=qwk (S9.out.push o (by rw[qrp]) Y);rw[<-d7.out,<-d8.out] at S;clear o Y))
      go_roundw
      case rel=>exact⟨j+1,by omega,by go_num,S⟩
      case measure=>simp[intOf];omega
     ·obtain rfl:j=gl.length:=by omega
      rw[c5.out,quw] at S7;obtain⟨V7,l7,a7,t7,o7⟩:=S7.out;have u:=zbw T5.out A5.out t7;have E:=zgq T5.out.size A5.out a7;obtain⟨n6,m5,rfl,r1,r2⟩:=zes o7;have S8:=qwk (S5.out.join L5.out S7.out);have LI:=zpo o7 rfl (zpk zcp X) l7;have K:(C++X.flatMap (ovF zcp)).length+2*(X.map (ovD zcp)).length<=8000000:=by have q1:=znz X;have P:=h9.out;unfold wG at P;rw[qrp,qtl];omega
      have GR:=qwk (qc4 (c:=m5) l7 (qqs z.out (qqs T5.out.size t7.size)) LI K (fun w' t=>b0.out w' (zbw u E t)));have hE:(C++X.flatMap (ovF zcp))++ovF zfk (X.map (ovD zcp))=C++zqb X:=by rw[qrc];rfl
      have hD:ovD zfk (X.map (ovD zcp))=znj X:=rfl;have a2:=z1v X;rw[hE,hD] at GR;have e7:=qwk l7;have R:Hid (Digs [znj X]):=qwk (fun y hy=>by obtain rfl:=qr6.1 hy;exact a2);generalize znj X=d at*;generalize C++zqb X=fd at*;generalize C++X.flatMap (ovF zcp)=fe at*;generalize X.map (ovD zcp)=P7 at*;clear a2 hE hD K LI l7 a7 t7 o7 u E r1 r2 S7 S5;go_wp2_with fail
      refine GR.out.mono ?_;rintro e w8 ⟨rfl,V8,l8,a8,Q⟩;have S9:=S8.out.turn e7.out l8 a8 Q;have n8:=zai w8 (.cells (recs zi6 [d]).toArray 35);have S9:=qwk (S9.new n8);obtain⟨_,_,_,t9,o9⟩:=S9.out;have O9:=qwk o9;have LV:=qwk (zsq (w:=w8) R.out (T:=[]) (by simp)).row;have B9:=qwk t9.size;clear n8 o9 t9 l8 a8 Q GR S8;go_wp2_with (first
       |(refine zp9 rfl 1 _ rfl [d] R.out rfl (by omega) (by omega) (by rw[qrj,qrk,qum];rfl) ?_)
       |(refine zrx rfl (.tmp 46) (.tmp 50) rfl O9.out LV.out rfl rfl B9.out (by have:=l4.out;rw[qu0];omega) ?_
         intro A9 c9 n4 _ _ o Y;rw[<-zbe] at o;have S:=qwk (S9.out.push o (by rw[qrp]) Y);rw[<-d5.out,<-d6.out] at S;clear o Y))
      go_roundw
      case rel=>exact⟨k+1,by omega,by go_num,S⟩
      case measure=>simp[intOf];omega
   ·obtain rfl:k=XR.length:=by omega
    rw[i8.out,quw] at S5;obtain⟨V5,l5,a5,t5,o5⟩:=S5.out;obtain⟨n5,m4,rfl,r1,r2⟩:=zes o5;have LI:=zpo o5 rfl (zm0 l) l5;have j3:(F++l.flatMap zqb).length+2*(l.map znj).length<=8000000:=by have q1:=zi0 l;have q2:=f0.out;have q3:=e8.out;have P:=e4.out;rw[qrp,qtl];omega
    have j4:(F++z1u l).length<=10000000:=by have q1:=zi0 l;have q2:=f0.out;have q3:=e8.out;have P:=e4.out;have q5:=zug ze4 (l.map znj);rw[qtl] at q5;unfold z1u;rw[qrp,qrp];omega
    have GS:=z7e (c:=m4) l5 (qqs z.out t5.size) LI j3 (fun w' t=>b0.out w' (zbw t5 a5 t));rw[qrc,show l.flatMap zqb++ovF ze4 (l.map znj)=z1u l from rfl,show ovD ze4 (l.map znj)=zwg l from rfl] at GS;have GS:=qwk GS;obtain rfl:m1=s.length:=by have:=O4.out.len;rwa[zaa] at this
    have Z:=O4.out.cap;have j8:=Z.2;simp only[maxLen] at j8;have FL:Hid (∀(W:World) (V8:Value),LogOf tL W base g V8 (F++z1u l)->(V8.ownBlock=V.ownBlock\/ ∃h,V8.ownBlock=some h/\w4.heap.size<=h)->Turns (g::zbt V) w4 W->Calls Tryz.prog 18 #[.pointer (some ⟨g,0,none⟩),.slice A1 s.length c1,dV (zwg l)] W (zf3 tL (.agg cs) base g V8 (F++fr) W)):=qwk (by intro W V8 l8 a8 Q;have:=z3t (c:=c1) (b:=zwg l) l8 (qqs z.out Q.size) j4 (a:=s) (A:=A1) (zhs O4.out.reads Q (fun h0=>qh5 O4.out i4.out (by rw[zaa];exact h0))) i6.out.1 Z.1 (by omega) i6.out.2 (zj3 l) (fun w' t=>b0.out w' (zbw Q a8 t));rw[d4.out,qrc,<-l0.out] at this;exact this)
    have l2:=qwk l5;have d1:=qwk a5;have e9:=qwk t5;have m6:=zj3 l;generalize zwg l=ad at*;generalize F++z1u l=F6 at*;generalize l.map znj=P5 at*;clear LI j3 j4 l5 a5 t5 o5 r1 r2 S5 Z j8 m6;go_wp2_with fail
    refine GS.out.mono ?_;rintro e w8 ⟨rfl,V8,l8,a8,Q⟩;have g7:=zbw e9.out d1.out Q;have f8:=zgq e9.out.size d1.out a8;have FL:=qwk (FL.out w8 V8 l8 f8 g7);have i7:=qwk g7;have h7:=qwk f8;clear l8 a8 Q g7 f8 GS l2 d1 e9;go_wp2_with fail
    refine FL.out.mono ?_;rintro e w9 ⟨rfl,V9,l9,a9,t9⟩;have g8:=zbw i7.out h7.out t9;have j1:=zgq i7.out.size h7.out a9;have g9:=i0.out.touch g8 (i4.out.notT i0.out (by decide) (by decide));have PS:=qwk (zdu e6.out l9 (j1.imp id fun⟨h,h1,h2⟩=>⟨h,h1,qqs c4.out.size h2⟩) ((qxe c4.out).trans g8) g9 cs);have H:=qwk (qtc (za1 g9) (zbi g9 cs));clear l9 a9 t9 g8 j1 g9 FL;go_wp2_with (refine wpList_store_row rfl 35 (.tmp 4) (.tmp 58) rfl w.heap.size cs rfl rfl _ _ H.out.1 D.out ZS.out b3.out ?_)
    exact bodyPost_ret (zia rfl _ _ w.heap.size _ cs (0,0) _ rfl H.out.2 zct rfl D.out) rfl ⟨rfl,PS.out⟩
theorem qc8{a b:List Nat}(c:∀x∈a,x<256)(d:∀x∈b,x<256)(e:a.length<=140737488351232)(f:b.length<=140737488351232)(l:zyx a=0)(m:zyx b=0)(h:zvw a=zvw b)(i:a≠b):Tells (zpp a) (zpp b):=by obtain⟨F,s,n,j,k⟩:=z3u l;obtain⟨G,t,q,o,p⟩:=z3u m;rw[k,p];exact z0r c d e f n q (by rw[<-j,<-o];exact h) i
theorem zt3{s:List Nat}{L:List (List Nat)}(c:∀x∈s,x<256)(b:∀p∈L,∀x∈p,x<256)(d:zik L<=9900000):∀f∈(za9 s L).toList,(∀x∈f,x<256)/\f.length<=10000000:=by
 intro f a;cases ho:za9 s L with
 |none=>rw[ho] at a;cases a
 |some y=>
  rw[ho] at a;obtain rfl:=qr6.1 a;exact⟨zgn c b ho,zfn ho d⟩
theorem zvs{s:List Nat}{D:List (List Nat)}(i:∀x∈s,x<256)(c:∀d∈D,(∀x∈d,x<256)/\d.length<=9000000):GoodF (ovF s D):=by unfold ovF;refine qxn (fun f a=>?_) (z4l (zil s D));unfold lvF at a;obtain⟨k,e,a⟩:=qtj.1 a;obtain⟨b,j⟩:=c _ (zf7 (qtn.1 e));generalize D.getD k []=d at*;exact zt3 i (z1t b) (by unfold zik;rw[zdd];simp[za0];omega) f a
theorem z3w{d:List Nat}(h:zna d):(∀x∈d,x<256)/\d.length<=9000000:=⟨h.2,by rw[h.1];omega⟩
theorem flat_good{α:Type}{f:α->List (List Nat)}{X:List α}(h:∀x∈X,GoodF (f x)):GoodF (X.flatMap f):=fun y a=>by obtain⟨x,b,a⟩:=qtj.1 a;exact h x b y a
theorem zry{b:List Nat}(m:∀x∈b,x<256)(k:zse b):GoodF (zpp b):=by
 unfold zpp;cases ho:openO b with
 |none=>exact fun f j=>nomatch j
 |some x=>
  obtain⟨F,s⟩:=x;obtain⟨C,D,r⟩:=k.2 F s ho;have o:=k.1;obtain⟨t,u,v,z,A,B,n⟩:=zga m k.1 ho;have a:∀X∈ze9 F.groups (b.drop 4),∀x∈X,∀p∈x,(∀y∈p,y<256)/\p.length<=9000000:=by intro X e x l p c;have a:=qvh.2 ⟨x,qvh.2 ⟨X,e,l⟩,c⟩;exact⟨fun y q=>m y (qte ((zkj a).1 y q)),r p a⟩
  dsimp only;unfold zo1 z1u zqc;refine qxn (qxn (flat_good fun X e=>?_) (zvs (by decide) fun d i=>z3w (zm0 _ d i))) (fun f j=>?_)
  ·unfold zqb
   exact qxn (flat_good fun x l=>zvs (by decide) (a X e x l)) (zvs (by decide) fun d i=>z3w (zpk _ _ d i))
  ·obtain rfl:=qr6.1 j
   refine⟨zgn (s:=zfp) (L:=[s,zwg (ze9 F.groups (b.drop 4))]) (by decide) (fun p c=>?_) zh9,?_⟩
   ·simp only[qsm,qur,or_false] at c
    rcases c with rfl|rfl
    ·exact n
    ·exact(zj3 _).2
   ·exact zfn (s:=zfp) (L:=[s,zwg (ze9 F.groups (b.drop 4))]) zh9 (by simp[zik,(zj3 _).1];omega)
theorem z3x{b:List Nat}(e:∀x∈b,x<256)(a:zse b):(zpp b).length<=6000000:=by
 unfold zpp;cases ho:openO b with
 |none=>simp
 |some x=>
  obtain⟨F,s⟩:=x;obtain⟨u,v,y⟩:=a.2 F s ho;have f:=a.1;obtain⟨c,i,j,k,l,m,n⟩:=zga e a.1 ho;obtain⟨o,p,q,r⟩:=zve b c;have t:=zi0 (ze9 F.groups (b.drop 4));have d:=zug ze4 ((ze9 F.groups (b.drop 4)).map znj);rw[qtl] at d;dsimp only;unfold zo1 z1u zqc;rw[qrp,qrp,qu0];omega
def qob(b:List Nat)(w:World)(g h:Nat)(F F':List (List Nat))(W:World):Ending->World->Prop:=TwPost (.tuple #[dV (zvw b),.int .i64 (zyx b)]) w g h (F++zpp b) F' W
section
variable{w W:World}{g h:Nat}{F F':List (List Nat)}
theorem zrz(a:GlobIn w)(b:w.heap.size<=g){V:Value}(l:LogOf tL W w.heap.size g V F)(n:New w W):∀w',Turns (g::zbt V) W w'->GlobIn w':=fun _ t=>a.new (Turns.below n t (l.own (qq0 _) b) (qq0 _))
theorem zyq(i:w.heap.size<=g)(j:g≠h)(n:GlobIn w)(l:Tw w g h W F F'){A:Option Addr}{c:Nat}{b:List Nat}(k:BIn w W A b)(m:∀x∈b,x<256)(d:zse b)(o:b.length<=c)(f:c<=9223372036854775807)(hF:F.length<=1000000):
 Calls Tryz.prog 23 #[.pointer (some ⟨g,0,none⟩),.slice A b.length c] W (qob b w g h F F' W):=by
 obtain⟨V,a⟩:=l.log;refine(qc7 a l.news.size (k.reads l.news) m d o f (k.far i a) hF (zrz n i a l.news)).mono fun e q p=>?_
 exact l.call i j a p
theorem z07(j:w.heap.size<=g)(e:g≠h)(o:GlobIn w)(l:Tw w g h W F F'){s d:List Nat}{k n:Int}{A:Option Addr}{c:Nat}(f:∀x∈s,x<256)(u:s.length<=140737488351232)(r:Reads W W.heap.size 1 A d.length (zar .u8 d))(m:∀x∈d,x<256)(b:d.length<=9000000)(q:d.length<=c)(a:c<=9223372036854775807)(hF:F.length<=1000000):
 Calls Tryz.prog 34 #[.pointer (some ⟨g,0,none⟩),.string (zaf s),.int .i64 k,.int .i64 n,.slice A d.length c] W (TwPost (dV (zca s (leafP k n d))) w g h (F++(za9 s (leafP k n d)).toList) F' W):=by
 obtain⟨V,i⟩:=l.log;have:=z1p (k:=k) (n:=n) i l.news.size (by omega) f u r m b q a (fun v t=>(zrz o j i l.news v t).1);rw[zlb] at this;exact this.mono fun _ _ p=>l.call j e i p
theorem ql3(j:w.heap.size<=g)(f:g≠h)(m:GlobIn w)(l:Tw w g h W F F'){A:Option Addr}{c:Nat}{a b:List Nat}(q:Reads W W.heap.size 1 A a.length (zar .u8 a))(k:∀x∈a,x<256)(d:a.length<=9000000)(o:a.length<=c)(e:c<=9223372036854775807)(n:zna b)(hF:F.length<=1000000):
 Calls Tryz.prog 18 #[.pointer (some ⟨g,0,none⟩),.slice A a.length c,dV b] W (TwPost (dV (z4o a b)) w g h (F++zqc a b) F' W):=by
 obtain⟨V,i⟩:=l.log;exact(z3t i l.news.size (by omega) q k o e d n (zrz m j i l.news)).mono fun _ _ p=>l.call j f i p
end
end Go.Proofs.Y
