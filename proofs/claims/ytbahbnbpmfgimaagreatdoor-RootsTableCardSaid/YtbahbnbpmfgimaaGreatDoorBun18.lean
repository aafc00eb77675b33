import Derived.Test.YtbahbnbpmfgimaaGreatDoorBun15
set_option maxHeartbeats 4000000
set_option maxRecDepth 100000
namespace Go.Hm
open Go Go.RowKit
def z17:St->Nat × St
 |some l=>if 8<=l.length then(num (l.take 8),some (l.drop 8)) else(0,none)
 |none=>(0,none)
def qfq(n:Nat):Int:=if n<9223372036854775808 then(n:Int) else(n:Int)-18446744073709551616
def rdC(t:Int)(S:St):zab × St:=
 if t=0 then((false,qfq (z17 S).1,[],0,0),(z17 S).2)
 else if t=3 then((false,0,[],zag (zk3 S).1,zag (zk3 (zk3 S).2).1),(zk3 (zk3 S).2).2)
 else((false,0,(zcv ((lenS 65536 S).1:Int) (lenS 65536 S).2).1,0,0),(zcv ((lenS 65536 S).1:Int) (lenS 65536 S).2).2)
def rdL(t:Int):Nat->St->List zab × St
 |0,S=>([],S)
 |_+1,none=>([],none)
 |k+1,some l=>((rdC t (some l)).1::(rdL t k (rdC t (some l)).2).1,(rdL t k (rdC t (some l)).2).2)
theorem z9n{n:Int}(h: -9223372036854775808<=n/\n<=9223372036854775807):qfq (u64N n)=n:=by unfold qfq u64N;split<;> omega
theorem z9o{n:Nat}(h:n<18446744073709551616):u64N (qfq n)=n:=by unfold qfq u64N;split<;> omega
theorem qm3{t:Int}{c:zab}(b:zad c t false=true)(n:t≠1)(hi: -9223372036854775808<=c.2.1/\c.2.1<=9223372036854775807)(r:List Nat):rdC t (some (plE t c++r))=(c,some r):=by
 have k:=zhz b;obtain⟨o,a,d,g,i⟩:=c;dsimp only at k hi;subst k;rcases zup b with rfl|rfl|rfl|rfl
 ·have e:d=[]/\g=0/\i=0:=by simpa[zad] using b
  obtain⟨rfl,rfl,rfl⟩:=e;have j:=za0 (u64N a) 8;have f:plE 0 (false,a,[],0,0)=low (u64N a) 8:=by unfold plE;rw[if_pos rfl]
  have l:z17 (some (low (u64N a) 8++r))=(u64N a,some r):=by unfold z17;dsimp only;rw[if_pos (by rw[qrp];omega),qts j,qtr j,zid (by have:=zzw a;omega)]
  unfold rdC;rw[if_pos rfl,f,l];dsimp only;rw[z9n hi]
 ·exact absurd rfl n
 ·have e:(a=0/\g=0/\i=0)/\d.length<=65536:=by simpa[zad] using b
  obtain⟨⟨rfl,rfl,rfl⟩,j⟩:=e;have f:plE 2 (false,0,d,0,0)=vp d.length++d:=by unfold plE;rw[if_neg (by decide),if_pos rfl]
  unfold rdC;rw[if_neg (by decide),if_neg (by decide),f,qrc,zb9 _ _ (by omega) (by omega)];dsimp only;rw[zea]
 ·have m:=zoh b
  have e:a=0/\d=[]:=by have:=zzy b;have h:=b;unfold zad at h;simp at h;exact⟨h.1.1,this⟩
  obtain⟨rfl,rfl⟩:=e;dsimp only at m;have f:plE 3 (false,0,[],g,i)=vp (zig g)++vp (zig i):=by unfold plE;rw[if_neg (by decide),if_neg (by decide),if_pos rfl]
  unfold rdC;rw[if_neg (by decide),if_pos rfl,f,qrc,zj5 _ _ (by unfold zig;split<;> omega)];dsimp only;rw[zj5 _ _ (by unfold zig;split<;> omega)];dsimp only;rw[zqg,zqg]
theorem z9p{t:Int}(b:t≠1):∀(l:List zab) (r:List Nat),(∀c∈l,zad c t false=true)->(∀c∈l,-9223372036854775808<=c.2.1/\c.2.1<=9223372036854775807)->rdL t l.length (some (l.flatMap (plE t)++r))=(l,some r)
 | [],r,_,_=>rfl
 |c::l,r,h,k=>by
  have ih:=z9p b l r (fun d a=>h d (by simp[a])) (fun d a=>k d (by simp[a]));rw[qt6,qrc,qr1,rdL,qm3 (h c (by simp)) b (k c (by simp))];dsimp only;rw[ih]
theorem qkv{t:Int}{S:St}{c:zab}{r:List Nat}(j:S.ok)(v:t=0\/t=2\/t=3)(h:rdC t S=(c,some r)):S=some (plE t c++r):=by
 rcases v with rfl|rfl|rfl
 ·unfold rdC at h
  rw[if_pos rfl] at h;injection h with b a;cases S with
  |none=>simp[z17] at a
  |some l=>
   unfold z17 at b a;dsimp only at b a;by_cases m:8<=l.length
   ·rw[if_pos m] at b a
    injection a with a;have p:=j l rfl;have i:(l.take 8).length=8:=by rw[qqx];omega
    have g:∀x∈l.take 8,x<256:=fun x w=>p x (qro w)
    have s:=zsl (l.take 8) g;rw[i] at s;have k:=zub (l.take 8) g;rw[i] at k;rw[<-b,<-a];unfold plE;rw[if_pos rfl];dsimp only;rw[z9o (by omega),k,qtq]
   ·rw[if_neg m] at a
    cases a
 ·unfold rdC at h
  rw[if_neg (by decide),if_neg (by decide)] at h;injection h with b a;rcases zbx 65536 S j with e|⟨N,q,rfl,n,-,e⟩
  ·rw[e] at a
   simp[zcv] at a
  ·rw[e] at b a
   dsimp only at b a;rcases zcl (N:Int) (some q) with d|⟨l,f,-,k,d⟩
   ·rw[d] at a
    cases a
   ·injection f with f
    subst f;rw[d] at b a;injection a with a;rw[<-b,<-a];unfold plE;rw[if_neg (by decide),if_pos rfl];dsimp only;rw[qrn,qqx,qqy (by omega),qrc,qtq]
 ·unfold rdC at h
  rw[if_neg (by decide),if_pos rfl] at h;injection h with b a;rcases zj7 S j with e|⟨N,q,rfl,n,e⟩
  ·rw[e] at a
   simp[zk3] at a
  ·rw[e] at b a
   dsimp only at b a;have u:St.ok (some q):=by have:=zun j;rwa[e] at this
   rcases zj7 (some q) u with d|⟨y,z,f,o,d⟩
   ·rw[d] at a
    cases a
   ·injection f with f
    subst f;rw[d] at b a;injection a with a;rw[<-b,<-a];unfold plE;rw[if_neg (by decide),if_neg (by decide),if_pos rfl];dsimp only;rw[zzn,zzn,qrc]
theorem qm4{t:Int}{S:St}(a:S.ok):(rdC t S).2.ok:=by
 unfold rdC;split
 ·cases S with
  |none=>exact qxo
  |some l=>
   unfold z17;dsimp only;split
   ·exact qxp fun x b=>a l rfl x (qte b)
   ·exact qxo
 ·split
  ·exact zun (zun a)
  ·exact(zf8 (zbo a)).1
theorem z18{t:Int}(b:t=0\/t=2\/t=3):∀(n:Nat) (S:St) (l:List zab) (r:List Nat),S.ok->rdL t n S=(l,some r)->S=some (l.flatMap (plE t)++r)/\l.length=n
 |0,S,l,r,_,h=>by
  unfold rdL at h;injection h with h1 h2;subst h1;exact⟨by simpa using h2,rfl⟩
 |n+1,none,l,r,_,h=>by
  unfold rdL at h;injection h with _ h2;cases h2
 |n+1,some s,l,r,hS,h=>by
  unfold rdL at h;injection h with h1 h2;have ho:=qm4 (t:=t) hS
  match hq:rdC t (some s) with
  |(c,none)=>
   rw[hq] at h2;cases n with
   |zero=>unfold rdL at h2;cases h2
   |succ n=>unfold rdL at h2;cases h2
  |(c,some q)=>
   rw[hq] at h1 h2 ho;obtain⟨a,d⟩:=z18 b n (some q) (rdL t n (some q)).1 r ho (by rw[<-h2]);have e:=qkv hS b hq;subst h1;refine⟨?_,by rw[qr1,d]⟩;injection a with a;rw[e,qt6,qrc,<-a]
end Go.Hm
namespace Go.Proofs.Y
open Go.RowKit Go.Hm
theorem qfr{w:World}{g:Nat}{S:St}(h:CurS w g S):Calls Tryz.prog 189 #[.pointer (some ⟨g,0,none⟩)] w (z9t (.returned (.int .u64 ((z17 S).1:Int))) g (z17 S).2 w):=by
 cases S with
 |none=>exact z82 h (.inl rfl)
 |some l=>
  unfold z17;dsimp only;split
  ·exact qe4 h ‹_›
  ·exact z82 h (.inr (by simp;omega))
theorem z9u{n:Nat}(h:n<18446744073709551616):IntKind.i64.wrap (n:Int)=qfq n:=by
 unfold qfq;by_cases a:n<9223372036854775808
 ·rw[if_pos a]
  exact qwj _ (by omega)
 ·rw[if_neg a]
  rw[qwr];omega
theorem z9v{S:St}(b:S.ok):(z17 S).1<18446744073709551616:=by
 cases S with
 |none=>simp[z17]
 |some l=>
  unfold z17;dsimp only;split
  ·have:=zsl (l.take 8) (fun x c=>b l rfl x (qro c))
   have a:(l.take 8).length=8:=by rw[qqx];omega
   rw[a] at this;omega
  ·simp
def qm6(c:zab)(g:Nat)(S:St)(w:World)(e:Ending)(w':World):Prop:=e= .returned (zde c)/\CurS w' g S/\w.grownBy w' (some g)
theorem qfs{w:World}{g:Nat}{S:St}{t:Int}(h:CurS w g S)(ht:t=0\/t=2\/t=3):
 Calls Tryz.prog 170 #[.pointer (some ⟨g,0,none⟩),.int .i64 t] w (qm6 (rdC t S).1 g (rdC t S).2 w):=by
 have a1:=h.lt;have H:New w (w.alloc (.cells (zay zbb).toArray 75)):=(qwd _ _).alloc (qq0 _) _;have B:=h.below H;have E:Blk (w.alloc (.cells (zay zbb).toArray 75)) w.heap.size 75 (zay zbb).toArray:=qw1 _ _ _;have F:w.grownBy (w.alloc (.cells (zay zbb).toArray 75)) (some g):=qw9 H;obtain⟨X,b⟩:∃X,X=rdC t S:=⟨_,rfl⟩;rw[<-b];unfold rdC at b;rcases ht with rfl|rfl|rfl
 ·rw[if_pos rfl] at b
  have u:=qwk (qfr B);have hw:=z9u (z9v h.ok);generalize z17 S=Q at*;obtain⟨a,O⟩:=Q;dsimp only at*;generalize qfq a=z at*;have G:=qwk b;clear b h B H;go_enter Tryz.func170,Tryz.ntmps170
  go_wp2_with fail
  refine u.out.mono ?_;rintro e Y ⟨rfl,y,i⟩;have o:=i.size;simp only[qww] at o;have d:=E.grown i (by intro e;injection e with e;omega);have x:=F.trans i
  go_wp2_with (refine zal rfl 75 (.tmp 4) (.tmp 13) rfl w.heap.size _ rfl rfl d (by kernel_rfl) (by simp[zay]) (by simp[Value.oneCell']) ?_
               intro T D r;obtain⟨K,p,C,L,M⟩:=zc3 D)
  have b:=G.out;subst b;exact bodyPost_ret (v:=zde (false,z,[],0,0)) (by simp[results,Tryz.results170,go_sem,K,p,C,L,M,zde,zay,show zaf []=⟨#[]⟩ from rfl]) rfl ⟨rfl,y.keep r d (by omega) (by decide),zbf x r (qq0 _)⟩
 ·rw[if_neg (by decide),if_neg (by decide)] at b
  have u:=qwk (zei (m:=65536) B (by omega) (by omega));have a0:=zdo (m:=65536) S (by omega) h.ok;generalize lenS 65536 S=Q at*;obtain⟨a,O⟩:=Q;dsimp only at*;obtain⟨N,f⟩:∃Q,Q=zcv (a:Int) O:=⟨_,rfl⟩;rw[<-f] at b;have l:=qwk f;have G:=qwk b;clear b h B H f;go_enter Tryz.func170,Tryz.ntmps170
  go_wp2_with fail
  refine u.out.mono ?_;rintro e Y ⟨rfl,y,i⟩;have o:=i.size;simp only[qww] at o;have d:=E.grown i (by intro e;injection e with e;omega);have x:=F.trans i;have k:=zqq (n:=(a:Int)) y (by omega) (by omega);rw[<-l.out] at k;have k:=qwk k;clear u E F i y;go_wp2_with fail
  refine k.out.mono ?_;rintro e Z ⟨A2,n2,c2,rfl,U,V,C,q⟩;have R:=q.size;have j:=d.grown q (by intro e;injection e with e;omega);have P:=x.trans q;have q2:=zjz (c:=c2) V.reads;obtain⟨x2,S2⟩:=N;dsimp only at U V C q2;subst U;clear k d x q l
  go_wp2_with (refine zal rfl 75 (.tmp 4) (.tmp 31) rfl w.heap.size _ rfl rfl j (by kernel_rfl) (by simp[zay]) (by simp[Value.oneCell']) ?_
               intro T D r;obtain⟨K,p,A,L,M⟩:=zc3 D)
  have b:=G.out;subst b;exact bodyPost_ret (v:=zde (false,0,x2,0,0)) (by simp[results,Tryz.results170,go_sem,K,p,A,L,M,zde,zay]) rfl ⟨rfl,C.keep r j (by omega) (by decide),zbf P r (qq0 _)⟩
 ·rw[if_neg (by decide),if_pos rfl] at b
  have u:=qwk (z2a B);have I:=zzm h.ok;have J:=zun h.ok;generalize zk3 S=Q at*;obtain⟨a,O⟩:=Q;dsimp only at*;have s:=zzm J;obtain⟨N,f⟩:∃Q,Q=zk3 O:=⟨_,rfl⟩;rw[<-f] at b s;have l:=qwk f;have Z1:=qwk (fun(W:World)=>z87 a W I);have Z2:=qwk (fun(W:World)=>z87 N.1 W s);have G:=qwk b;clear b h B H f;go_enter Tryz.func170,Tryz.ntmps170
  go_wp2_with fail
  refine u.out.mono ?_;rintro e Y ⟨rfl,y,i⟩;have o:=i.size;simp only[qww] at o;have d:=E.grown i (by intro e;injection e with e;omega);have x:=F.trans i;have k:=z2a y;rw[<-l.out] at k;have k:=qwk k;clear u E F i y;go_wp2_with fail
  refine(Z1.out _).mono ?_;rintro e Z ⟨rfl,rfl⟩;go_wp2_with fail
  refine k.out.mono ?_;rintro e Z ⟨rfl,C,q⟩;have R:=q.size;have j:=d.grown q (by intro e;injection e with e;omega);have P:=x.trans q;clear k d x q l;go_wp2_with fail
  refine(Z2.out _).mono ?_;rintro e w3 ⟨rfl,rfl⟩
  go_wp2_with (refine zal rfl 75 (.tmp 4) (.tmp 25) rfl w.heap.size _ rfl rfl j (by kernel_rfl) (by simp[zay]) (by simp[Value.oneCell']) ?_
               intro T D r;obtain⟨K,p,A,L,M⟩:=zc3 D)
  have b:=G.out;subst b;exact bodyPost_ret (v:=zde (false,0,[],zag a,zag N.1)) (by simp[results,Tryz.results170,go_sem,K,p,A,L,M,zde,zay,show zaf []=⟨#[]⟩ from rfl]) rfl ⟨rfl,C.keep r j (by omega) (by decide),zbf P r (qq0 _)⟩
end Go.Proofs.Y
namespace Go.Hm
open Go Go.RowKit
structure IsPl(Q:zab->Prop)(t:Int)(b:List Nat)(n:Int)(o:Option (List zab)):Prop where
 sound:∀l,o=some l->(l.length:Int)=n/\plO t l=some b/\ ∀c∈l,Q c
 compl:∀l,(∀c∈l,Q c)->(l.length:Int)=n->plO t l=some b->o=some l
theorem qk1{w:World}{base sz n:Nat}{e:TypeId}{v:Value}{xs:List Value}{g:Nat}(h:w.ownsRow base e sz v n xs)(a:v.ownBlock=some g):∃cs,Blk w g e cs:=by
 rcases h.2 with⟨rfl,_⟩|⟨d,b,c,rfl,_,f,_⟩
 ·simp[Value.ownBlock] at a
 ·have:d=g:=by simpa[Value.ownBlock] using a
  subst this;exact⟨_,f⟩
theorem plO_iff{t:Int}{l:List zab}{b:List Nat}:plO t l=some b↔zjk t l=true/\plB t l=b:=by
 unfold plO;by_cases h:zjk t l=true
 ·rw[if_pos h]
  simp[h]
 ·rw[if_neg h]
  simp[h]
theorem z2b{t:Int}(a:t=0\/t=2\/t=3)(l:List zab):plB t l=l.flatMap (plE t):=by unfold plB;rw[if_neg (by omega)]
end Go.Hm
namespace Go.Proofs.Y
open Go.RowKit Go.Hm
theorem CurS.pushRow{w w':World}{g base sz n:Nat}{S:St}{e:TypeId}{v:Value}{xs:List Value}(h:CurS w g S)(o:w.ownsRow base e sz v n xs)(a:w.grownBy w' v.ownBlock)(b:e≠180)(c:5≠e):CurS w' g S:=by
 cases hv:v.ownBlock with
 |none=>
  rw[hv] at a;exact h.below ((qxg (T:=[]) a).new (by simp))
 |some l=>
  obtain⟨k,d⟩:=qk1 o hv;rw[hv] at a;obtain⟨f,j⟩:=h.blk;exact h.keep a d (fun i=>by subst i;exact qw2 d j b rfl) c
theorem qpt:ElT Tryz.prog 76 75 (.agg #[.bool false,.int .i64 0,.string ⟨#[]⟩,.int .i64 0,.int .i64 0]) 5 48:=⟨by kernel_rfl,by kernel_rfl,rfl,by omega⟩
def OptC(o:Option (List zab))(w:World)(e:Ending)(w':World):Prop:=
 match o with
 |none=>e= .returned (.tuple #[.slice none 0 0,.bool false])/\New w w'
 |some l=>∃A n c,e= .returned (.tuple #[.slice A n c,.bool true])/\w'.ownsRow w.heap.size 75 5 (.slice A n c) n (recs zay l)/\New w w'
def qpu(t:Int)(b:List Nat)(n:Int)(w:World)(e:Ending)(w':World):Prop:=∃o,IsPl zaj t b n o/\OptC o w e w'
theorem z9w{t:Int}{s:List Nat}(a:St.ok (some s)):zaj (rdC t (some s)).1:=by
 unfold rdC zaj;split
 ·have h:=z9v a
  dsimp only;refine⟨⟨by simp,by simp⟩,?_⟩;unfold qfq;split<;> omega
 ·split
  ·dsimp only
   exact⟨⟨by simp,by simp⟩,by omega⟩
  ·dsimp only
   have b:=zdo (m:=65536) (some s) (by omega) a;have c:=zqf (n:=((lenS 65536 (some s)).1:Int)) (S:=(lenS 65536 (some s)).2) (by omega);exact⟨⟨by omega,(zf8 (zbo a)).2⟩,by omega⟩
theorem qft(t:Int)(j:Nat):rdL t j none=([],none):=by cases j<;> rfl
theorem z2c{t:Int}{b:List Nat}{n:Nat}{a:List zab}{S:St}(k:t=0\/t=2\/t=3)(w:n<=65536)(r:St.ok (some b))(d:rdL t n (some b)=(a,S))(i:∀c∈a,zaj c):
 IsPl zaj t b (n:Int) (if S=some []/\(a.all fun c=>zad c t false)=true then some a else none):=by
 constructor
 ·intro l f
  split at f
  ·rename_i h
   injection f with f;subst f;obtain⟨rfl,s⟩:=h;obtain⟨e,g⟩:=z18 k n (some b) a [] r d;injection e with e;rw[qra] at e;refine⟨by omega,plO_iff.2 ⟨plOk_iff.2 ⟨by omega,qs9.1 s⟩,?_⟩,i⟩;rw[z2b k,e]
  ·cases f
 ·intro l u g v
  obtain⟨j,m⟩:=plO_iff.1 v;rw[z2b k] at m;have o:=(plOk_iff.1 j).2;have:=z9p (t:=t) (by omega) l [] o (fun c h=>(u c h).2);rw[qra,m,show l.length=n by omega,d] at this;injection this with p q;subst p q;rw[if_pos ⟨rfl,qs9.2 o⟩]
theorem zz1{w:World}{A:Option Addr}{c m:Nat}{b:List Nat}{t:Int}{n:Nat}(h:Reads w w.heap.size 1 A m (zar .u8 b))(Z:∀x∈b,x<256)(hm:m<=140737488351232)(ht:t=0\/t=2\/t=3)(hn:n<=65536):
 Calls Tryz.prog 154 #[.int .i64 t,.slice A m c,.int .i64 (n:Int)] w (qpu t b (n:Int) w):=by
 obtain rfl:m=b.length:=h.len;have H:=zme (w:=w) (t:=t) (n:=(n:Int));rw[decide_eq_true (show 0<=t/\t<=3/\0<=(n:Int)/\(n:Int)<=65536 by omega)] at H;have H:=qwk H;have OV:=qwk (zuk (c:=c) h (by omega) Z);have t1:(t==1)=false:=beq_eq_false_iff_ne.2 (by omega);have H8:=qwk Z;have HT:=qwk ht;clear h Z;go_enter Tryz.func154,Tryz.ntmps154
 go_wp2_with fail
 refine H.out.mono ?_;rintro e w1 ⟨rfl,rfl⟩;go_wp2_with fail
 refine OV.out.mono ?_;rintro e w1 ⟨g,rfl,hg,z,b1⟩;have s1:=CurS.of z;clear z H OV t1;go_wp2_with fail
 go_loopw [9,10] (fun v i wr=>∃(k:Nat) (a:List zab) (S:St) (T:Option Addr) (N:Nat),k<=n/\a.length=k/\i= .int .i64 (k:Int)/\v= .slice T k N/\wr.ownsRow w.heap.size 75 5 (.slice T k N) k (recs zay a)/\CurS wr g S/\Below w.heap.size w wr/\Hid (rdL t n (some b)=(a++(rdL t (n-k) S).1,(rdL t (n-k) S).2))/\Hid (∀c∈a,zaj c)) (fun _ i _=>n-(intOf i).toNat)
 case atStart=>exact⟨0,[],some b,none,0,qq1 _,rfl,rfl,rfl,by simpa[recs] using zd8,s1,b1,qwk (by simp),qwk (by simp)⟩
 case round=>
  obtain⟨k,a,S,T,N,hk,L,rfl,rfl,o,E,j,q,G⟩:=hrel;have hz:=j.size;have a0:St.ok (some b):=qxp H8.out;by_cases d:k<n/\S≠none
  ·obtain⟨a4,J⟩:=d
   obtain⟨s,rfl⟩:=Option.ne_none_iff_exists'.1 J;have K:=E.ok;have u:=qwk (qir E);rw[qvc] at u;have RD:=qwk (qfs E HT.out);have C:=z9w (t:=t) K;have r:=q.out;rw[show n-k=(n-(k+1))+1 by omega,rdL] at r;dsimp only at r;obtain⟨cs,hT⟩:=E.blk;have o':=o;generalize rdC t (some s)=R at*;obtain⟨⟨y0,y1,y2,y3,y4⟩,S2⟩:=R;dsimp only at*;have X:=qwk r;have U:=qwk C;have V:=qwk L;have a3:(k:Int)<(n:Int):=by omega
   clear r C q J E K L;go_wp2_with fail
   refine u.out.mono ?_;rintro e Q ⟨rfl,rfl⟩;go_wp2_with fail
   refine RD.out.mono ?_;rintro e w3 ⟨rfl,s3,Y⟩;rw[show zde (y0,y1,y2,y3,y4)= .agg #[.bool y0,.int .i64 y1,.string (zaf y2),.int .i64 y3,.int .i64 y4] from rfl];have P:=qqi o' Y (.inr (zat o' hT (by decide)));have I:Below w.heap.size w w3:=j.grown Y hz (fun k e=>by injection e with e;omega);have a1:=I.size;have S3:=qwk s3;clear u RD o o' Y j s3 hT
   go_wp2_with (refine zd9 qpt rfl (.tmp 34) (.tmp 38) rfl (W:=w) (B:=w.heap.size) (base:=w.heap.size) (n:=k) P rfl rfl I (qq0 _) a1 rfl (by simp[Value.oneCell']) (by omega) (by simp only[maxLen];omega) ?_
                intro A5 c5 w5 _ _ o5 g5 b5 _ _)
   have s5:=S3.out.pushRow P g5 (by decide) (by decide);go_roundw
   case rel=>exact⟨k+1,a++[(y0,y1,y2,y3,y4)],S2,A5,c5,by omega,by rw[qrp,V.out];rfl,by go_num,rfl,by rw[zbe];simpa[recs,zay] using o5,s5,b5,qwk (by rw[X.out,qrc];rfl),qwk (fun c z=>by
    rcases qr5.1 z with z|z
    ·exact G.out c z
    ·rw[qr6.1 z];exact U.out)⟩
   case measure=>simp[intOf];omega
  ·have D:rdL t n (some b)=(a,S):=by
    rw[q.out];by_cases p:k<n
    ·have:S=none:=qvd fun e=>d ⟨p,e⟩
     subst this;rw[qft,qra]
    ·rw[show n-k=0 by omega]
     simp[rdL]
   have f:=z2c HT.out hn a0 D G.out;have F:=qwk (zmh E);have M:=qwk (zoi (t:=t) (c:=N) (qwz o) (fun y hy=>(G.out y hy).1.1) (by omega));have u:=qwk (qir E);have l:=qwk f;clear f D q E;by_cases O:S=some []
   ·subst O
    have p: ¬k<n:=fun e=>d ⟨e,by simp⟩
    obtain rfl:k=n:=by omega
    rw[show z7k (some [])=true from rfl] at F;clear u d;go_wp2_with fail
    refine F.out.mono ?_;rintro e Q ⟨rfl,rfl⟩;go_wp2_with fail
    refine M.out.mono ?_;rintro e w3 ⟨rfl,I⟩;have f:=l.out;have P:=zba o I;have hl:=qw5 j I;cases hall:(a.all fun c=>zad c t false) with
    |true=>
     rw[if_pos ⟨by trivial,hall⟩] at f;have l:=qwk f;clear f F M;go_wp2_with fail
     go_ret2
     exact⟨some a,l.out,_,_,_,rfl,P,hl⟩
    |false=>
     rw[if_neg (by rw[hall];simp)] at f;have l:=qwk f;clear f F M;go_wp2_with fail
     go_ret2
     exact⟨none,l.out,rfl,hl⟩
   ·have f:=l.out
    rw[if_neg (fun e=>O e.1)] at f;have l:=qwk f;rw[show z7k S=false from decide_eq_false O] at F;clear f M O;by_cases p:k<n
    ·have:S=none:=qvd fun e=>d ⟨p,e⟩
     subst this;rw[show(Option.isNone (none:St))=true from rfl] at u;have a2:(k:Int)<(n:Int):=by omega
     clear d;go_wp2_with fail
     refine u.out.mono ?_;rintro e Q ⟨rfl,rfl⟩;go_wp2_with fail
     refine F.out.mono ?_;rintro e Q ⟨rfl,rfl⟩;go_wp2_with fail
     go_ret2
     exact⟨none,l.out,rfl,j⟩
    ·obtain rfl:k=n:=by omega
     clear d u;go_wp2_with fail
     refine F.out.mono ?_;rintro e Q ⟨rfl,rfl⟩;go_wp2_with fail
     go_ret2
     exact⟨none,l.out,rfl,j⟩
end Go.Proofs.Y
