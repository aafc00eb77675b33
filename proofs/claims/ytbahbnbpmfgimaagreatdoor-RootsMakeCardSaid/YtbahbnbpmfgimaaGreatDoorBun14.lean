import Derived.Test.YtbahbnbpmfgimaaGreatDoorBun10
import Derived.Test.YtbahbnbpmfgimaaGreatDoorBun13
set_option maxHeartbeats 4000000
set_option maxRecDepth 100000
namespace Go.Hm
open Go Go.RowKit
def z0h:St->Nat × St
 |some l=>if 8<=l.length then(num (l.take 8),some (l.drop 8)) else(0,none)
 |none=>(0,none)
def qco(n:Nat):Int:=if n<9223372036854775808 then(n:Int) else(n:Int)-18446744073709551616
def rdC(t:Int)(S:St):zab × St:=
 if t=0 then((false,qco (z0h S).1,[],0,0),(z0h S).2)
 else if t=3 then((false,0,[],zag (zqr S).1,zag (zqr (zqr S).2).1),(zqr (zqr S).2).2)
 else((false,0,(ze6 ((lenS 65536 S).1:Int) (lenS 65536 S).2).1,0,0),(ze6 ((lenS 65536 S).1:Int) (lenS 65536 S).2).2)
def rdL(t:Int):Nat->St->List zab × St
 |0,S=>([],S)
 |_+1,none=>([],none)
 |k+1,some l=>((rdC t (some l)).1::(rdL t k (rdC t (some l)).2).1,(rdL t k (rdC t (some l)).2).2)
theorem z7c{n:Int}(h: -9223372036854775808<=n/\n<=9223372036854775807):qco (u64N n)=n:=by unfold qco u64N;split<;> omega
theorem z7d{n:Nat}(h:n<18446744073709551616):u64N (qco n)=n:=by unfold qco u64N;split<;> omega
theorem qiw{t:Int}{c:zab}(hr:zam c t false=true)(ht:t≠1)(hi: -9223372036854775808<=c.2.1/\c.2.1<=9223372036854775807)(r:List Nat):rdC t (some (plE t c++r))=(c,some r):=by
 have h0:=zla hr;obtain⟨y0,y1,y2,y3,y4⟩:=c;dsimp only at h0 hi;subst h0;rcases zth hr with rfl|rfl|rfl|rfl
 ·have e:y2=[]/\y3=0/\y4=0:=by simpa[zam] using hr
  obtain⟨rfl,rfl,rfl⟩:=e;have hl:=zbe (u64N y1) 8;have e1:plE 0 (false,y1,[],0,0)=low (u64N y1) 8:=by unfold plE;rw[if_pos rfl]
  have e2:z0h (some (low (u64N y1) 8++r))=(u64N y1,some r):=by unfold z0h;dsimp only;rw[if_pos (by rw[qmv];omega),qo1 hl,qo0 hl,zkm (by have:=zx2 y1;omega)]
  unfold rdC;rw[if_pos rfl,e1,e2];dsimp only;rw[z7c hi]
 ·exact absurd rfl ht
 ·have e:(y1=0/\y3=0/\y4=0)/\y2.length<=65536:=by simpa[zam] using hr
  obtain⟨⟨rfl,rfl,rfl⟩,hl⟩:=e;have e1:plE 2 (false,0,y2,0,0)=vp y2.length++y2:=by unfold plE;rw[if_neg (by decide),if_pos rfl]
  unfold rdC;rw[if_neg (by decide),if_neg (by decide),e1,qmi,zea _ _ (by omega) (by omega)];dsimp only;rw[zo5]
 ·have h3:=zpb hr
  have e:y1=0/\y2=[]:=by have:=zx5 hr;have h:=hr;unfold zam at h;simp at h;exact⟨h.1.1,this⟩
  obtain⟨rfl,rfl⟩:=e;dsimp only at h3;have e1:plE 3 (false,0,[],y3,y4)=vp (zig y3)++vp (zig y4):=by unfold plE;rw[if_neg (by decide),if_neg (by decide),if_pos rfl]
  unfold rdC;rw[if_neg (by decide),if_pos rfl,e1,qmi,zs9 _ _ (by unfold zig;split<;> omega)];dsimp only;rw[zs9 _ _ (by unfold zig;split<;> omega)];dsimp only;rw[z6z,z6z]
theorem z7e{t:Int}(ht:t≠1):∀(l:List zab) (r:List Nat),(∀c∈l,zam c t false=true)->(∀c∈l,-9223372036854775808<=c.2.1/\c.2.1<=9223372036854775807)->rdL t l.length (some (l.flatMap (plE t)++r))=(l,some r)
 | [],r,_,_=>rfl
 |c::l,r,h,k=>by
  have ih:=z7e ht l r (fun d hd=>h d (by simp[hd])) (fun d hd=>k d (by simp[hd]));rw[qpe,qmi,qm9,rdL,qiw (h c (by simp)) ht (k c (by simp))];dsimp only;rw[ih]
theorem qgz{t:Int}{S:St}{c:zab}{r:List Nat}(hS:S.ok)(ht:t=0\/t=2\/t=3)(h:rdC t S=(c,some r)):S=some (plE t c++r):=by
 rcases ht with rfl|rfl|rfl
 ·unfold rdC at h
  rw[if_pos rfl] at h;injection h with h1 h2;cases S with
  |none=>simp[z0h] at h2
  |some l=>
   unfold z0h at h1 h2;dsimp only at h1 h2;by_cases h8:8<=l.length
   ·rw[if_pos h8] at h1 h2
    injection h2 with h2;have hb:=hS l rfl;have ht8:(l.take 8).length=8:=by rw[ql2];omega
    have hb8:∀x∈l.take 8,x<256:=fun x hx=>hb x (qmu hx)
    have hn:=zrd (l.take 8) hb8;rw[ht8] at hn;have hl:=zsu (l.take 8) hb8;rw[ht8] at hl;rw[<-h1,<-h2];unfold plE;rw[if_pos rfl];dsimp only;rw[z7d (by omega),hl,qoz]
   ·rw[if_neg h8] at h2
    cases h2
 ·unfold rdC at h
  rw[if_neg (by decide),if_neg (by decide)] at h;injection h with h1 h2;rcases zdq 65536 S hS with e|⟨N,q,rfl,hN,-,e⟩
  ·rw[e] at h2
   simp[ze6] at h2
  ·rw[e] at h1 h2
   dsimp only at h1 h2;rcases zfi (N:Int) (some q) with e2|⟨l,e3,-,hl,e2⟩
   ·rw[e2] at h2
    cases h2
   ·injection e3 with e3
    subst e3;rw[e2] at h1 h2;injection h2 with h2;rw[<-h1,<-h2];unfold plE;rw[if_neg (by decide),if_pos rfl];dsimp only;rw[qmt,ql2,ql3 (by omega),qmi,qoz]
 ·unfold rdC at h
  rw[if_neg (by decide),if_pos rfl] at h;injection h with h1 h2;rcases zje S hS with e|⟨N,q,rfl,hN,e⟩
  ·rw[e] at h2
   simp[zqr] at h2
  ·rw[e] at h1 h2
   dsimp only at h1 h2;have hq:St.ok (some q):=by have:=zta hS;rwa[e] at this
   rcases zje (some q) hq with e2|⟨N2,q2,e3,hN2,e2⟩
   ·rw[e2] at h2
    cases h2
   ·injection e3 with e3
    subst e3;rw[e2] at h1 h2;injection h2 with h2;rw[<-h1,<-h2];unfold plE;rw[if_neg (by decide),if_neg (by decide),if_pos rfl];dsimp only;rw[z60,z60,qmi]
theorem qix{t:Int}{S:St}(hS:S.ok):(rdC t S).2.ok:=by
 unfold rdC;split
 ·cases S with
  |none=>exact qsp
  |some l=>
   unfold z0h;dsimp only;split
   ·exact qsq fun x hx=>hS l rfl x (qoo hx)
   ·exact qsp
 ·split
  ·exact zta (zta hS)
  ·exact(zjf (zb9 hS)).1
theorem z0i{t:Int}(ht:t=0\/t=2\/t=3):∀(n:Nat) (S:St) (l:List zab) (r:List Nat),S.ok->rdL t n S=(l,some r)->S=some (l.flatMap (plE t)++r)/\l.length=n
 |0,S,l,r,_,h=>by
  unfold rdL at h;injection h with h1 h2;subst h1;exact⟨by simpa using h2,rfl⟩
 |n+1,none,l,r,_,h=>by
  unfold rdL at h;injection h with _ h2;cases h2
 |n+1,some s,l,r,hS,h=>by
  unfold rdL at h;injection h with h1 h2;have ho:=qix (t:=t) hS
  match hq:rdC t (some s) with
  |(c,none)=>
   rw[hq] at h2;cases n with
   |zero=>unfold rdL at h2;cases h2
   |succ n=>unfold rdL at h2;cases h2
  |(c,some q)=>
   rw[hq] at h1 h2 ho;obtain⟨e1,e2⟩:=z0i ht n (some q) (rdL t n (some q)).1 r ho (by rw[<-h2]);have e3:=qgz hS ht hq;subst h1;refine⟨?_,by rw[qm9,e2]⟩;injection e1 with e1;rw[e3,qpe,qmi,<-e1]
end Go.Hm
namespace Go.Proofs.Y
open Go.RowKit Go.Hm
theorem qcp{w:World}{g:Nat}{S:St}(h:CurS w g S):Calls Tryz.prog 189 #[.pointer (some ⟨g,0,none⟩)] w (z7i (.returned (.int .u64 ((z0h S).1:Int))) g (z0h S).2 w):=by
 cases S with
 |none=>exact z6t h (.inl rfl)
 |some l=>
  unfold z0h;dsimp only;split
  ·exact qb4 h ‹_›
  ·exact z6t h (.inr (by simp;omega))
theorem z7j{n:Nat}(h:n<18446744073709551616):IntKind.i64.wrap (n:Int)=qco n:=by
 unfold qco;by_cases hn:n<9223372036854775808
 ·rw[if_pos hn]
  exact qre _ (by omega)
 ·rw[if_neg hn]
  rw[qrl];omega
theorem z7k{S:St}(hS:S.ok):(z0h S).1<18446744073709551616:=by
 cases S with
 |none=>simp[z0h]
 |some l=>
  unfold z0h;dsimp only;split
  ·have:=zrd (l.take 8) (fun x hx=>hS l rfl x (qmu hx))
   have h2:(l.take 8).length=8:=by rw[ql2];omega
   rw[h2] at this;omega
  ·simp
def qiz(c:zab)(g:Nat)(S:St)(w:World)(e:Ending)(w':World):Prop:=e= .returned (zdb c)/\CurS w' g S/\w.grownBy w' (some g)
theorem qcq{w:World}{g:Nat}{S:St}{t:Int}(h:CurS w g S)(ht:t=0\/t=2\/t=3):
 Calls Tryz.prog 170 #[.pointer (some ⟨g,0,none⟩),.int .i64 t] w (qiz (rdC t S).1 g (rdC t S).2 w):=by
 have hlt:=h.lt;have ha:New w (w.alloc (.cells (za4 zbf).toArray 75)):=(qq8 _ _).alloc (ql6 _) _;have h0:=h.below ha;have BZ:Blk (w.alloc (.cells (za4 zbf).toArray 75)) w.heap.size 75 (za4 zbf).toArray:=qrv _ _ _;have G0:w.grownBy (w.alloc (.cells (za4 zbf).toArray 75)) (some g):=qr4 ha;obtain⟨X,hX⟩:∃X,X=rdC t S:=⟨_,rfl⟩;rw[<-hX];unfold rdC at hX;rcases ht with rfl|rfl|rfl
 ·rw[if_pos rfl] at hX
  have C1:=qrf (qcp h0);have hw:=z7j (z7k h.ok);generalize z0h S=Q at*;obtain⟨a,S1⟩:=Q;dsimp only at*;generalize qco a=z at*;have HX:=qrf hX;clear hX h h0 ha;go_enter Tryz.func170,Tryz.ntmps170
  go_wp2_with fail
  refine C1.out.mono ?_;rintro e w1 ⟨rfl,s1,g1⟩;have hz1:=g1.size;simp only[qrq] at hz1;have BZ1:=BZ.grown g1 (by intro e;injection e with e;omega);have G1:=G0.trans g1
  go_wp2_with (refine zan rfl 75 (.tmp 4) (.tmp 13) rfl w.heap.size _ rfl rfl BZ1 (by kernel_rfl) (by simp[za4]) (by simp[Value.oneCell']) ?_
               intro W5 BR G5;obtain⟨s0,s1',s2,s3,s4⟩:=zc4 BR)
  have hX:=HX.out;subst hX;exact bodyPost_ret (v:=zdb (false,z,[],0,0)) (by simp[results,Tryz.results170,go_sem,s0,s1',s2,s3,s4,zdb,za4,show zai []=⟨#[]⟩ from rfl]) rfl ⟨rfl,s1.keep G5 BZ1 (by omega) (by decide),zbj G1 G5 (ql6 _)⟩
 ·rw[if_neg (by decide),if_neg (by decide)] at hX
  have C1:=qrf (zeb (m:=65536) h0 (by omega) (by omega));have hle:=zds (m:=65536) S (by omega) h.ok;generalize lenS 65536 S=Q at*;obtain⟨a,S1⟩:=Q;dsimp only at*;obtain⟨Q2,hQ2⟩:∃Q,Q=ze6 (a:Int) S1:=⟨_,rfl⟩;rw[<-hQ2] at hX;have HQ2:=qrf hQ2;have HX:=qrf hX;clear hX h h0 ha hQ2;go_enter Tryz.func170,Tryz.ntmps170
  go_wp2_with fail
  refine C1.out.mono ?_;rintro e w1 ⟨rfl,s1,g1⟩;have hz1:=g1.size;simp only[qrq] at hz1;have BZ1:=BZ.grown g1 (by intro e;injection e with e;omega);have G1:=G0.trans g1;have C2:=zpg (n:=(a:Int)) s1 (by omega) (by omega);rw[<-HQ2.out] at C2;have C2:=qrf C2;clear C1 BZ G0 g1 s1;go_wp2_with fail
  refine C2.out.mono ?_;rintro e w2 ⟨A2,n2,c2,rfl,e2,k2,s2,g2⟩;have hz2:=g2.size;have BZ2:=BZ1.grown g2 (by intro e;injection e with e;omega);have G2:=G1.trans g2;have q2:=znu (c:=c2) k2.reads;obtain⟨x2,S2⟩:=Q2;dsimp only at e2 k2 s2 q2;subst e2;clear C2 BZ1 G1 g2 HQ2
  go_wp2_with (refine zan rfl 75 (.tmp 4) (.tmp 31) rfl w.heap.size _ rfl rfl BZ2 (by kernel_rfl) (by simp[za4]) (by simp[Value.oneCell']) ?_
               intro W5 BR G5;obtain⟨s0,s1',s2',s3,s4⟩:=zc4 BR)
  have hX:=HX.out;subst hX;exact bodyPost_ret (v:=zdb (false,0,x2,0,0)) (by simp[results,Tryz.results170,go_sem,s0,s1',s2',s3,s4,zdb,za4]) rfl ⟨rfl,s2.keep G5 BZ2 (by omega) (by decide),zbj G2 G5 (ql6 _)⟩
 ·rw[if_neg (by decide),if_pos rfl] at hX
  have C1:=qrf (z0k h0);have hlt1:=z6x h.ok;have hok1:=zta h.ok;generalize zqr S=Q at*;obtain⟨a,S1⟩:=Q;dsimp only at*;have hlt2:=z6x hok1;obtain⟨Q2,hQ2⟩:∃Q,Q=zqr S1:=⟨_,rfl⟩;rw[<-hQ2] at hX hlt2;have HQ2:=qrf hQ2;have Z1:=qrf (fun(W:World)=>z62 a W hlt1);have Z2:=qrf (fun(W:World)=>z62 Q2.1 W hlt2);have HX:=qrf hX;clear hX h h0 ha hQ2;go_enter Tryz.func170,Tryz.ntmps170
  go_wp2_with fail
  refine C1.out.mono ?_;rintro e w1 ⟨rfl,s1,g1⟩;have hz1:=g1.size;simp only[qrq] at hz1;have BZ1:=BZ.grown g1 (by intro e;injection e with e;omega);have G1:=G0.trans g1;have C2:=z0k s1;rw[<-HQ2.out] at C2;have C2:=qrf C2;clear C1 BZ G0 g1 s1;go_wp2_with fail
  refine(Z1.out _).mono ?_;rintro e w2 ⟨rfl,rfl⟩;go_wp2_with fail
  refine C2.out.mono ?_;rintro e w2 ⟨rfl,s2,g2⟩;have hz2:=g2.size;have BZ2:=BZ1.grown g2 (by intro e;injection e with e;omega);have G2:=G1.trans g2;clear C2 BZ1 G1 g2 HQ2;go_wp2_with fail
  refine(Z2.out _).mono ?_;rintro e w3 ⟨rfl,rfl⟩
  go_wp2_with (refine zan rfl 75 (.tmp 4) (.tmp 25) rfl w.heap.size _ rfl rfl BZ2 (by kernel_rfl) (by simp[za4]) (by simp[Value.oneCell']) ?_
               intro W5 BR G5;obtain⟨s0,s1',s2',s3,s4⟩:=zc4 BR)
  have hX:=HX.out;subst hX;exact bodyPost_ret (v:=zdb (false,0,[],zag a,zag Q2.1)) (by simp[results,Tryz.results170,go_sem,s0,s1',s2',s3,s4,zdb,za4,show zai []=⟨#[]⟩ from rfl]) rfl ⟨rfl,s2.keep G5 BZ2 (by omega) (by decide),zbj G2 G5 (ql6 _)⟩
end Go.Proofs.Y
namespace Go.Hm
open Go Go.RowKit
structure IsPl(Q:zab->Prop)(t:Int)(b:List Nat)(n:Int)(o:Option (List zab)):Prop where
 sound:∀l,o=some l->(l.length:Int)=n/\plO t l=some b/\ ∀c∈l,Q c
 compl:∀l,(∀c∈l,Q c)->(l.length:Int)=n->plO t l=some b->o=some l
theorem qg5{w:World}{base sz n:Nat}{e:TypeId}{v:Value}{xs:List Value}{g:Nat}(h:w.ownsRow base e sz v n xs)(hv:v.ownBlock=some g):∃cs,Blk w g e cs:=by
 rcases h.2 with⟨rfl,_⟩|⟨g',cap,cur,rfl,_,hh,_⟩
 ·simp[Value.ownBlock] at hv
 ·have:g'=g:=by simpa[Value.ownBlock] using hv
  subst this;exact⟨_,hh⟩
theorem plO_iff{t:Int}{l:List zab}{b:List Nat}:plO t l=some b↔zk9 t l=true/\plB t l=b:=by
 unfold plO;by_cases h:zk9 t l=true
 ·rw[if_pos h]
  simp[h]
 ·rw[if_neg h]
  simp[h]
theorem z0l{t:Int}(ht:t=0\/t=2\/t=3)(l:List zab):plB t l=l.flatMap (plE t):=by unfold plB;rw[if_neg (by omega)]
end Go.Hm
namespace Go.Proofs.Y
open Go.RowKit Go.Hm
theorem CurS.pushRow{w w':World}{g base sz n:Nat}{S:St}{e:TypeId}{v:Value}{xs:List Value}(h:CurS w g S)(o:w.ownsRow base e sz v n xs)(hg:w.grownBy w' v.ownBlock)(he1:e≠180)(he2:5≠e):CurS w' g S:=by
 cases hv:v.ownBlock with
 |none=>
  rw[hv] at hg;exact h.below ((qsb (T:=[]) hg).new (by simp))
 |some g'=>
  obtain⟨cs,hB⟩:=qg5 o hv;rw[hv] at hg;obtain⟨cs2,hC⟩:=h.blk;exact h.keep hg hB (fun e'=>by subst e';exact qrx hB hC he1 rfl) he2
theorem qky:ElT Tryz.prog 76 75 (.agg #[.bool false,.int .i64 0,.string ⟨#[]⟩,.int .i64 0,.int .i64 0]) 5 48:=⟨by kernel_rfl,by kernel_rfl,rfl,by omega⟩
def OptC(o:Option (List zab))(w:World)(e:Ending)(w':World):Prop:=
 match o with
 |none=>e= .returned (.tuple #[.slice none 0 0,.bool false])/\New w w'
 |some l=>∃A n c,e= .returned (.tuple #[.slice A n c,.bool true])/\w'.ownsRow w.heap.size 75 5 (.slice A n c) n (recs za4 l)/\New w w'
def qkz(t:Int)(b:List Nat)(n:Int)(w:World)(e:Ending)(w':World):Prop:=∃o,IsPl zat t b n o/\OptC o w e w'
theorem z7l{t:Int}{s:List Nat}(hs:St.ok (some s)):zat (rdC t (some s)).1:=by
 unfold rdC zat;split
 ·have h:=z7k hs
  dsimp only;refine⟨⟨by simp,by simp⟩,?_⟩;unfold qco;split<;> omega
 ·split
  ·dsimp only
   exact⟨⟨by simp,by simp⟩,by omega⟩
  ·dsimp only
   have h1:=zds (m:=65536) (some s) (by omega) hs;have h2:=zo6 (n:=((lenS 65536 (some s)).1:Int)) (S:=(lenS 65536 (some s)).2) (by omega);exact⟨⟨by omega,(zjf (zb9 hs)).2⟩,by omega⟩
theorem qcr(t:Int)(j:Nat):rdL t j none=([],none):=by cases j<;> rfl
theorem z0m{t:Int}{b:List Nat}{n:Nat}{out:List zab}{S:St}(ht:t=0\/t=2\/t=3)(hn:n<=65536)(h8:St.ok (some b))(hfin:rdL t n (some b)=(out,S))(hda:∀c∈out,zat c):
 IsPl zat t b (n:Int) (if S=some []/\(out.all fun c=>zam c t false)=true then some out else none):=by
 constructor
 ·intro l hl
  split at hl
  ·rename_i hc
   injection hl with hl;subst hl;obtain⟨rfl,hR⟩:=hc;obtain⟨e,hlen⟩:=z0i ht n (some b) out [] h8 hfin;injection e with e;rw[qmg] at e;refine⟨by omega,plO_iff.2 ⟨plOk_iff.2 ⟨by omega,qog.1 hR⟩,?_⟩,hda⟩;rw[z0l ht,e]
  ·cases hl
 ·intro l hd hlen hp
  obtain⟨hok,hb⟩:=plO_iff.1 hp;rw[z0l ht] at hb;have hr:=(plOk_iff.1 hok).2;have:=z7e (t:=t) (by omega) l [] hr (fun c hc=>(hd c hc).2);rw[qmg,hb,show l.length=n by omega,hfin] at this;injection this with e1 e2;subst e1 e2;rw[if_pos ⟨rfl,qog.2 hr⟩]
theorem zx8{w:World}{A:Option Addr}{c m:Nat}{b:List Nat}{t:Int}{n:Nat}(h:Reads w w.heap.size 1 A m (zah .u8 b))(h8:∀x∈b,x<256)(hm:m<=140737488351232)(ht:t=0\/t=2\/t=3)(hn:n<=65536):
 Calls Tryz.prog 154 #[.int .i64 t,.slice A m c,.int .i64 (n:Int)] w (qkz t b (n:Int) w):=by
 obtain rfl:m=b.length:=h.len;have KN:=zlb (w:=w) (t:=t) (n:=(n:Int));rw[decide_eq_true (show 0<=t/\t<=3/\0<=(n:Int)/\(n:Int)<=65536 by omega)] at KN;have KN:=qrf KN;have OV:=qrf (zs7 (c:=c) h (by omega) h8);have t1:(t==1)=false:=beq_eq_false_iff_ne.2 (by omega);have H8:=qrf h8;have HT:=qrf ht;clear h h8;go_enter Tryz.func154,Tryz.ntmps154
 go_wp2_with fail
 refine KN.out.mono ?_;rintro e w1 ⟨rfl,rfl⟩;go_wp2_with fail
 refine OV.out.mono ?_;rintro e w1 ⟨g,rfl,hg,hc,b1⟩;have s1:=CurS.of hc;clear hc KN OV t1;go_wp2_with fail
 go_loopw [9,10] (fun v i wr=>∃(k:Nat) (out:List zab) (S:St) (AA:Option Addr) (cc:Nat),k<=n/\out.length=k/\i= .int .i64 (k:Int)/\v= .slice AA k cc/\wr.ownsRow w.heap.size 75 5 (.slice AA k cc) k (recs za4 out)/\CurS wr g S/\Below w.heap.size w wr/\Hid (rdL t n (some b)=(out++(rdL t (n-k) S).1,(rdL t (n-k) S).2))/\Hid (∀c∈out,zat c)) (fun _ i _=>n-(intOf i).toNat)
 case atStart=>exact⟨0,[],some b,none,0,ql7 _,rfl,rfl,rfl,by simpa[recs] using zdx,s1,b1,qrf (by simp),qrf (by simp)⟩
 case round=>
  obtain⟨k,out,S,AA,cc,hk,hol,rfl,rfl,o,hs,hbl,hrd,hda⟩:=hrel;have hz:=hbl.size;have hb8:St.ok (some b):=qsq H8.out;by_cases hgo:k<n/\S≠none
  ·obtain⟨hlt,hSn⟩:=hgo
   obtain⟨s,rfl⟩:=Option.ne_none_iff_exists'.1 hSn;have hok:=hs.ok;have BD:=qrf (qe6 hs);rw[qqd] at BD;have RD:=qrf (qcq hs HT.out);have hdat:=z7l (t:=t) hok;have hst:=hrd.out;rw[show n-k=(n-(k+1))+1 by omega,rdL] at hst;dsimp only at hst;obtain⟨cs,hT⟩:=hs.blk;have o':=o;generalize rdC t (some s)=R at*;obtain⟨⟨y0,y1,y2,y3,y4⟩,S2⟩:=R;dsimp only at*;have HST:=qrf hst;have HDT:=qrf hdat;have HOL:=qrf hol;have hlt':(k:Int)<(n:Int):=by omega
   clear hst hdat hrd hSn hs hok hol;go_wp2_with fail
   refine BD.out.mono ?_;rintro e w2 ⟨rfl,rfl⟩;go_wp2_with fail
   refine RD.out.mono ?_;rintro e w3 ⟨rfl,s3,g3⟩;rw[show zdb (y0,y1,y2,y3,y4)= .agg #[.bool y0,.int .i64 y1,.string (zai y2),.int .i64 y3,.int .i64 y4] from rfl];have o3:=qlm o' g3 (.inr (zav o' hT (by decide)));have b3:Below w.heap.size w w3:=hbl.grown g3 hz (fun k e=>by injection e with e;omega);have hz3:=b3.size;have S3:=qrf s3;clear BD RD o o' g3 hbl s3 hT
   go_wp2_with (refine zdy qky rfl (.tmp 34) (.tmp 38) rfl (W:=w) (B:=w.heap.size) (base:=w.heap.size) (n:=k) o3 rfl rfl b3 (ql6 _) hz3 rfl (by simp[Value.oneCell']) (by omega) (by simp only[maxLen];omega) ?_
                intro A5 c5 w5 _ _ o5 g5 b5 _ _)
   have s5:=S3.out.pushRow o3 g5 (by decide) (by decide);go_roundw
   case rel=>exact⟨k+1,out++[(y0,y1,y2,y3,y4)],S2,A5,c5,by omega,by rw[qmv,HOL.out];rfl,by go_num,rfl,by rw[za7];simpa[recs,za4] using o5,s5,b5,qrf (by rw[HST.out,qmi];rfl),qrf (fun c hc=>by
    rcases qnd.1 hc with hc|hc
    ·exact hda.out c hc
    ·rw[qne.1 hc];exact HDT.out)⟩
   case measure=>simp[intOf];omega
  ·have hfin:rdL t n (some b)=(out,S):=by
    rw[hrd.out];by_cases hkn:k<n
    ·have:S=none:=qqe fun e=>hgo ⟨hkn,e⟩
     subst this;rw[qcr,qmg]
    ·rw[show n-k=0 by omega]
     simp[rdL]
   have hI:=z0m HT.out hn hb8 hfin hda.out;have EN:=qrf (zlf hs);have AR:=qrf (znc (t:=t) (c:=cc) (qrt o) (fun y hy=>(hda.out y hy).1.1) (by omega));have BD:=qrf (qe6 hs);have HI:=qrf hI;clear hI hfin hrd hs;by_cases hS:S=some []
   ·subst hS
    have hkn: ¬k<n:=fun e=>hgo ⟨e,by simp⟩
    obtain rfl:k=n:=by omega
    rw[show qca (some [])=true from rfl] at EN;clear BD hgo;go_wp2_with fail
    refine EN.out.mono ?_;rintro e w2 ⟨rfl,rfl⟩;go_wp2_with fail
    refine AR.out.mono ?_;rintro e w3 ⟨rfl,b3⟩;have hI:=HI.out;have o3:=za8 o b3;have hl:=qr0 hbl b3;cases hall:(out.all fun c=>zam c t false) with
    |true=>
     rw[if_pos ⟨by trivial,hall⟩] at hI;have HI:=qrf hI;clear hI EN AR;go_wp2_with fail
     go_ret2
     exact⟨some out,HI.out,_,_,_,rfl,o3,hl⟩
    |false=>
     rw[if_neg (by rw[hall];simp)] at hI;have HI:=qrf hI;clear hI EN AR;go_wp2_with fail
     go_ret2
     exact⟨none,HI.out,rfl,hl⟩
   ·have hI:=HI.out
    rw[if_neg (fun e=>hS e.1)] at hI;have HI:=qrf hI;rw[show qca S=false from decide_eq_false hS] at EN;clear hI AR hS;by_cases hkn:k<n
    ·have:S=none:=qqe fun e=>hgo ⟨hkn,e⟩
     subst this;rw[show(Option.isNone (none:St))=true from rfl] at BD;have hkn':(k:Int)<(n:Int):=by omega
     clear hgo;go_wp2_with fail
     refine BD.out.mono ?_;rintro e w2 ⟨rfl,rfl⟩;go_wp2_with fail
     refine EN.out.mono ?_;rintro e w2 ⟨rfl,rfl⟩;go_wp2_with fail
     go_ret2
     exact⟨none,HI.out,rfl,hbl⟩
    ·obtain rfl:k=n:=by omega
     clear hgo BD;go_wp2_with fail
     refine EN.out.mono ?_;rintro e w2 ⟨rfl,rfl⟩;go_wp2_with fail
     go_ret2
     exact⟨none,HI.out,rfl,hbl⟩
end Go.Proofs.Y
namespace Go.Hm
open Go Go.RowKit
def zvt(x:Nat):zab:=(false,(x:Int),[],0,0)
theorem z8a{l:List Nat}(h:∀x∈l,x<2):zeg (l.map zvt)=l:=by
 unfold zeg;rw[qnr];conv=>rhs;rw[<-List.map_id l]
 refine qns fun x hx=>?_
 have:=h x hx;show u64N (x:Int)=x;unfold u64N;omega
theorem z8b{l:List zab}(h:∀c∈l,zam c 1 false=true):(zeg l).map zvt=l:=by
 unfold zeg;rw[qnr];conv=>rhs;rw[<-List.map_id l]
 refine qns fun c hc=>?_
 have hr:=h c hc;have h0:=zla hr;have h1:=qe4 hr;obtain⟨y0,y1,y2,y3,y4⟩:=c;dsimp only at h0 h1;subst h0;have e:(y2=[]/\y3=0/\y4=0)/\(y1=0\/y1=1):=by simpa[zam] using hr
 obtain⟨⟨rfl,rfl,rfl⟩,-⟩:=e;show zvt (u64N y1)=(false,y1,[],0,0);unfold zvt u64N;rcases h1 with rfl|rfl<;> rfl
theorem z3e{x:Nat}(h:x<2):zam (zvt x) 1 false=true:=by
 have:x=0\/x=1:=by omega
 rcases this with rfl|rfl<;> simp[zam,zvt]
end Go.Hm
namespace Go.Proofs.Y
open Go.RowKit Go.Hm
theorem zvu{b:List Nat}{n:Int}(h8:∀x∈b,x<256):IsPl zat 1 b n ((zfz b 1 n).map fun l=>l.map zvt):=by
 constructor
 ·intro l hl
  cases hu:zfz b 1 n with
  |none=>rw[hu] at hl;cases hl
  |some k=>
   rw[hu] at hl;injection hl with hl;subst hl;obtain⟨hp,hlen,hw,hk,hf⟩:=zo4 h8 hu;have h2:∀x∈k,x<2:=by have:=(zh4 k 1 (by omega) hk).1 (by omega);simpa using this
   have hR:∀c∈k.map zvt,zam c 1 false=true:=fun c hc=>by obtain⟨x,hx,rfl⟩:=qly.1 hc;exact z3e (h2 x hx)
   have hpb:=qck hR (by rw[qos];exact hf);rw[z8a h2,hp] at hpb;injection hpb with hpb;refine⟨by rw[qos];exact hlen,plO_iff.2 ⟨plOk_iff.2 ⟨⟨by omega,by omega,by rw[qos];exact hf⟩,hR⟩,hpb.symm⟩,fun c hc=>?_⟩;obtain⟨x,hx,rfl⟩:=qly.1 hc;have:=h2 x hx;unfold zat zvt;exact⟨⟨by simp,by simp⟩,by dsimp only;omega⟩
 ·intro l _ hlen hp
  obtain⟨hok,hb⟩:=plO_iff.1 hp;obtain⟨⟨_,_,hf⟩,hR⟩:=plOk_iff.1 hok;have hbl:(zeg l).length=l.length:=by unfold zeg;rw[qos]
  have hu:=zxw (zeg l) 1 (by omega) (by omega) (zpc hR) (fun x hx=>by unfold zeg at hx;obtain⟨y,_,rfl⟩:=qly.1 hx;have:=zx2 y.2.1;omega);have e:low (pk 1 (zeg l)) ((1*(zeg l).length+7)/8)=b:=by rw[<-hb];unfold plB;rw[if_pos rfl,hbl]
  rw[e,hbl,hlen] at hu;have hu:zfz b 1 n=some (zeg l):=hu;rw[hu];show some ((zeg l).map zvt)=some l;rw[z8b hR]
end Go.Proofs.Y
namespace Go.Hm
open Go Go.RowKit
theorem z3f(a b c d f:Value)(n:Nat):(madeCells #[a,b,c,d,f] (n*5)).toList=(List.replicate n [a,b,c,d,f]).flatten:=by
 induction n with
 |zero=>simp[madeCells]
 |succ n ih=>
  rw[qon,qpm,<-ih];have e:∀m,m%5=0->(madeCells #[a,b,c,d,f] (m+5)).toList=(madeCells #[a,b,c,d,f] m).toList++[a,b,c,d,f]:=by intro m hm;simp only[madeCells,qpn,qpo,qpp,qpj,qmp,qmq,qmi,qm8,qmx,qmz,qm9,qpg];rw[hm,show(m+1)%5=1 by omega,show(m+2)%5=2 by omega,show(m+3)%5=3 by omega,show(m+4)%5=4 by omega];rfl
  rw[qn2,e (n*5) (by omega)];simp
section
variable{P:Program}{ops:Array Oper}{rest:List Oper}{o:Oper}{a:Act}{Q:Exit->Act->World->Prop}
theorem zyl{w:World}{t e:TypeId}{x y z u v:Value}{bytes:Nat}(E:ElT P t e (.agg #[x,y,z,u,v]) 5 bytes)(hgd:o.guard=none)(lo co:Operand)(ho:o.op=Op.makeSlice t lo co)
 {W:World}{B:Nat}{kl kc:IntKind}{L C:Int}(n:Nat)(hl:a.eval lo= .int kl L)(hc:a.eval co= .int kc C)(hL:L=(n:Int))(hC:C=(n:Int))(hb:Below B W w)(hbase:B<=w.heap.size)
 (hn:n*bytes<=140737488355328)(hm:n<=maxLen)
 (h:∀w',w'.ownsRow w.heap.size e 5 (.slice (some ⟨w.heap.size,0,none⟩) n n) n (List.replicate n [x,y,z,u,v]).flatten->w.grownBy w' none->Below B W w'->w'.heap.size=w.heap.size+1->wpList P ops Q rest (a.put o.dst (.slice (some ⟨w.heap.size,0,none⟩) n n)) w'):
 wpList P ops Q (o::rest) a w:=by
 obtain⟨i,hi,hz0,hs1,hb1⟩:=info_parts E.hi;subst hL hC;have hmC:(n:Int)<=9223372036854775807:=by have h:=hm;simp only[maxLen] at h;omega
 have hbC:(i.bytes:Int)*(n:Int)<=281474976710656:=by
  have h:((i.bytes*n:Nat):Int)<=281474976710656:=by rw[hb1,qmr];omega
  rwa[qms] at h
 have hrun:=run_make (P:=P) w t e i (.agg #[x,y,z,u,v]) E.ht hi hz0 kl kc (n:Int) (n:Int) (by omega) (by omega) hbC hmC;rw[qmt,hs1] at hrun;refine wpList_plain hgd fun K hK=>?_
 unfold Oper.wp;simp[execOp,ho,hl,hc,hrun,Result.andThen];refine hK _ _ (h _ ?_ (qra _ _ _) (hb.alloc hbase _) (by simp));refine⟨by simp,.inr ⟨_,n,_,rfl,ql6 _,heap_alloc_new w _,ql6 _,hm,by simp[size_madeCells],?_⟩⟩;rw[qm0 (by simp[size_madeCells])];exact z3f x y z u v n
end
theorem qdc{A B:List zab}{z:Nat}:(recs za4 (A++zbf::B)).set (A.length*5+1) (.int .i64 (z:Int))=recs za4 (A++zvt z::B):=by have l:(recs za4 A).length=A.length*5:=zaz (sz:=5) (fun _=>rfl) A;rw[za7,za7,qn5 _ _ (by omega),l,show A.length*5+1-A.length*5=1 by omega];congr 1
theorem z8c(n:Nat):(List.replicate n [Value.bool false,.int .i64 0,.string ⟨#[]⟩,.int .i64 0,.int .i64 0]).flatten=recs za4 (List.replicate n zbf):=by
 induction n with
 |zero=>rfl
 |succ n ih=>
  rw[qn7,qpw,ih,qn7];rfl
end Go.Hm
namespace Go.Proofs.Y
open Go.RowKit Go.Hm
theorem zpp{w:World}{A:Option Addr}{c m:Nat}{b:List Nat}{n:Nat}(h:Reads w w.heap.size 1 A m (zah .u8 b))(h8:∀x∈b,x<256)(hm:m<=140737488351232)(hn:n<=65536):
 Calls Tryz.prog 169 #[.slice A m c,.int .i64 (n:Int)] w (OptC ((zfz b 1 (n:Int)).map fun l=>l.map zvt) w):=by
 obtain rfl:m=b.length:=h.len;have U:=qrf (z2r (c:=c) 1 (n:Int) h h8 (by omega) (by omega) (by omega) (by omega) (by omega));have hpu:=fun l=>zo4 (l:=l) (x:=1) (n:=(n:Int)) h8
 clear h h8;generalize zfz b 1 (n:Int)=O at*;cases O with
 |none=>
  go_enter Tryz.func169,Tryz.ntmps169
  go_wp2_with fail
  refine U.out.mono ?_;rintro e w1 ⟨rfl,b1⟩;go_wp2_with fail
  go_ret2
  exact⟨rfl,b1⟩
 |some l=>
  obtain⟨-,hlen,hw,hk,hf⟩:=hpu l rfl;have h2:∀x∈l,x<2:=by have:=(zh4 l 1 (by omega) hk).1 (by omega);simpa using this
  obtain rfl:n=l.length:=by omega
  have H2:=qrf h2;clear hpu hlen hw hk h2;go_enter Tryz.func169,Tryz.ntmps169
  go_wp2_with fail
  refine U.out.mono ?_;rintro e w1 ⟨A1,n1,c1,rfl,k1,b1⟩;obtain rfl:n1=l.length:=by have:=k1.len;rwa[zaa] at this
  have hz1:=b1.size;have R1:=qrf k1.reads;clear U k1
  go_wp2_with (refine zyl qky rfl (.tmp 19) (.tmp 19) rfl (W:=w) (B:=w.heap.size) l.length rfl rfl rfl rfl b1 hz1 (by omega) (by simp only[maxLen];omega) ?_
               intro w2 o2 g2 b2 hs2)
  rw[z8c] at o2;have b12:New w1 w2:=(qsb (T:=[]) g2).new (by simp);go_loopw [23] (fun i wr=>∃k:Nat,k<=l.length/\i= .int .i64 (k:Int)/\wr.ownsRow w1.heap.size 75 5 (.slice (some ⟨w1.heap.size,0,none⟩) l.length l.length) l.length (recs za4 ((l.take k).map zvt++List.replicate (l.length-k) zbf))/\New w1 wr) (fun i _=>l.length-(intOf i).toNat)
  case atStart=>exact⟨0,ql7 _,rfl,by simpa using o2,b12⟩
  case round=>
   obtain⟨k,hk,rfl,o,hb⟩:=hrel;clear o2 g2 b2 b12 hs2;by_cases hlt:k<l.length
   ·obtain⟨ax,rfl,hbx,qx⟩:=(qsg R1.out hb).num (i:=k) hlt
    have hx2:=H2.out (l.getD k 0) (by rw[qnp,qlx hlt];exact qml hlt);have htk:=zae l k 0 hlt;generalize l.getD k 0=x at*;have hwr:IntKind.i64.wrap (x:Int)=(x:Int):=qre _ (by omega);obtain⟨ad,ea,_,-,d1,-⟩:=(qrt o).cell5 (i:=k) hlt;injection ea with ea;subst ea;obtain⟨cs,BR⟩:=zxl o;have f1:=BR.frozen (k*5+1);have ead:(⟨w1.heap.size,0,none⟩:Addr).add (k*5)=⟨w1.heap.size,k*5,none⟩:=by unfold Addr.add;split<;> simp_all
    rw[ead] at d1;dsimp only at d1;have hA:((l.take k).map zvt).length=k:=by rw[qos,ql2];omega
    obtain⟨o',-⟩:=qlu o (k*5+1) (.int .i64 (x:Int));have ers:=qdc (A:=(l.take k).map zvt) (B:=List.replicate (l.length-(k+1)) zbf) (z:=x);rw[hA] at ers;rw[show l.length-k=(l.length-(k+1))+1 by omega,qn7,ers] at o';have o':(wr.setCell ⟨w1.heap.size,k*5+1,none⟩ (.int .i64 (x:Int))).ownsRow w1.heap.size 75 5 (.slice (some ⟨w1.heap.size,0,none⟩) l.length l.length) l.length (recs za4 ((l.take (k+1)).map zvt++List.replicate (l.length-(k+1)) zbf)):=by rw[htk,qpj,qmi];exact o'
    have O':=qrf o';have HB:=qrf (hb.setCell (p:=⟨w1.heap.size,k*5+1,none⟩) (ql6 _) (.int .i64 (x:Int)));clear o' ers o htk hA BR;go_wp2_with fail
    go_roundw
    case rel=>exact⟨k+1,by omega,by go_num,O'.out,HB.out⟩
    case measure=>simp[intOf];omega
   ·obtain rfl:k=l.length:=by omega
    rw[qn6,qpq,qmg,qp1] at o;go_wp2_with fail
    go_ret2
    exact⟨_,_,_,rfl,ze4 o hz1,qr0 b1 hb⟩
end Go.Proofs.Y
