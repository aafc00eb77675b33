import Derived.Test.YtbahbnbpmfgimaaGreatDoorBun28
set_option maxHeartbeats 2000000
set_option maxRecDepth 100000
namespace Go.Proofs.Y
open Go.RowKit Go.Hm
theorem zp1{m:Int}{rows:Int}(hrm:rows<=m)(hm:m<=9223372036854775807):∀(cs:List zbi) (ls:List (List zbc)) (r:List Nat),ls.length=cs.length->
 (∀i,i<cs.length->zes (cs.getD i ([],0,false)).2.1 (cs.getD i ([],0,false)).2.2 (ls.getD i []) rows)->(∀l∈ls,∀p∈l,statData p.2.2)->(zcl cs ls).length+r.length<=140737488351232->
 zbq m cs (some (zcl cs ls++r))=(ls,some r)
 | [],[],r,_,_,_,_=>rfl
 | [],l::ls,_,h,_,_,_=>by simp at h
 |c::cs,[],_,h,_,_,_=>by simp at h
 |c::cs,l::ls,r,hlen,hok,hd,hr=>by
  simp only[zcl,qmv] at hr;have h0:=hok 0 (by simp);simp only[List.getD_cons_zero] at h0;simp only[zcl,qmi,zbq];rw[z3v h0 hrm hm (hd l (by simp)) (by rw[qmv];omega)];dsimp only;rw[zp1 hrm hm cs ls r (by simpa using hlen) (fun i hi=>by have:=hok (i+1) (by simp;omega);simpa using this) (fun l' hl'=>hd l' (by simp[hl'])) (by omega)]
noncomputable def zdt(k:Int->Int)(cols:List zbi)(m:Int)(S:St):za9 × St:=
 ((((lenS m S).1:Int),(zbq (k ((lenS m S).1:Int)) cols (lenS m S).2).1),(zbq (k ((lenS m S).1:Int)) cols (lenS m S).2).2)
noncomputable def zbs(k:Int->Int)(cols:List zbi)(m:Int):Nat->St->List za9 × St
 |0,S=>([],S)
 |_+1,none=>([],none)
 |n+1,some l=>((zdt k cols m (some l)).1::(zbs k cols m n (zdt k cols m (some l)).2).1,(zbs k cols m n (zdt k cols m (some l)).2).2)
theorem zwf{k:Int->Int}{cols:List zbi}{m:Int}{S:St}(h:S.ok):(zdt k cols m S).2.ok:=zr8 _ (zb9 h)
theorem zyx{k:Int->Int}{cols:List zbi}{m:Int}{S:St}:∀l∈(zdt k cols m S).1.2,∀p∈l,statData p.2.2:=znj _ _
theorem znl(k:Int->Int)(cols:List zbi)(m:Int)(n:Nat):zbs k cols m n none=([],none):=by cases n<;> rfl
theorem zi2{k:Int->Int}{cols:List zbi}{m:Int}:∀(n:Nat) (S:St),∀g∈(zbs k cols m n S).1,∀l∈g.2,∀p∈l,statData p.2.2
 |0,_,g,hg=>by simp[zbs] at hg
 |_+1,none,g,hg=>by simp[zbs] at hg
 |n+1,some b,g,hg=>by
  simp only[zbs,qnu] at hg;rcases hg with rfl|hg
  ·exact zyx
  ·exact zi2 n _ g hg
theorem zyy{k:Int->Int}{cols:List zbi}{m:Int}{S:St}{g:za9}{r:List Nat}(hS:S.ok)(h:zdt k cols m S=(g,some r)):S=some (zde cols g++r):=by
 unfold zdt at h;obtain⟨N,S1,e⟩:∃N S1,lenS m S=(N,S1):=⟨_,_,rfl⟩;have hS1:S1.ok:=by have:=zb9 (m:=m) hS;rwa[e] at this
 rw[e] at h;dsimp only at h;simp only[qlk] at h;obtain⟨rfl,h2⟩:=h;have e1:=znk cols hS1 (show zbq (k (N:Int)) cols S1=((zbq (k (N:Int)) cols S1).1,some r) by rw[<-h2]);rw[(zhr hS (show lenS m S=(N,some _) by rw[e,<-e1])).1];simp[zde]
theorem znm{k:Int->Int}{cols:List zbi}{m:Int}:∀(n:Nat) {S:St} {gs:List za9} {r:List Nat},S.ok->zbs k cols m n S=(gs,some r)->S=some (gs.flatMap (zde cols)++r)/\gs.length=n
 |0,S,gs,r,_,h=>by
  simp only[zbs,qlk] at h;obtain⟨rfl,rfl⟩:=h;exact⟨rfl,rfl⟩
 |n+1,none,gs,r,_,h=>by
  simp only[zbs,qlk] at h;cases h.2
 |n+1,some b,gs,r,hS,h=>by
  simp only[zbs,qlk] at h;obtain⟨rfl,h2⟩:=h;obtain⟨e1,e2⟩:=znm n (S:=(zdt k cols m (some b)).2) (zwf hS) (show zbs k cols m n (zdt k cols m (some b)).2=((zbs k cols m n (zdt k cols m (some b)).2).1,some r) by rw[<-h2]);have e3:=zyy hS (show zdt k cols m (some b)=((zdt k cols m (some b)).1,some _) by rw[<-e1]);refine⟨?_,by rw[qm9,e2]⟩;rw[qpe,qmi];exact e3
theorem z3w{k:Int->Int}(hk:∀r,0<=r->r<=65536->r<=k r/\k r<=65536){cols:List zbi}{m:Int}{g:za9}{r:List Nat}(h:GroupOk cols g)(hgm:g.1<=m)(hm:m<=65536)(hd:∀l∈g.2,∀p∈l,statData p.2.2)
 (hr:(zde cols g).length+r.length<=140737488351232):zdt k cols m (some (zde cols g++r))=(g,some r):=by
 obtain⟨h1,h2,h3⟩:=h;obtain⟨rows,ls⟩:=g;dsimp only at h1 h2 h3 hgm hd;obtain⟨n,rfl⟩:=qn1 (show 0<=rows by omega);have hkn:=hk (n:Int) (by omega) (by omega);unfold zde at hr⊢;simp only[qmt,qmv] at hr⊢;unfold zdt;rw[qmi,zea n _ hgm (by omega)];dsimp only;rw[zp1 hkn.1 (by omega) cols ls r h2 h3 hd (by omega)]
theorem zp2{k:Int->Int}(hk:∀r,0<=r->r<=65536->r<=k r/\k r<=65536){cols:List zbi}{m:Int}(hm:m<=65536):∀(gs:List za9) (r:List Nat),(∀g∈gs,GroupOk cols g/\g.1<=m/\ ∀l∈g.2,∀p∈l,statData p.2.2)->
 (gs.flatMap (zde cols)).length+r.length<=140737488351232->zbs k cols m gs.length (some (gs.flatMap (zde cols)++r))=(gs,some r)
 | [],r,_,_=>rfl
 |g::gs,r,h,hr=>by
  obtain⟨a,b,c⟩:=h g (by simp);rw[qpe,qmv] at hr;rw[qpe,qmi,qm9];simp only[zbs];rw[z3w hk a b hm c (by rw[qmv];omega)];dsimp only;rw[zp2 hk hm gs r (fun q hq=>h q (by simp[hq])) (by omega)]
structure IsFoot(b:List Nat)(o:Option FootS):Prop where
 sound:∀F,o=some F->zb0 F/\zfo F/\ze8 F=b
 compl:∀F,zb0 F->zfo F->ze8 F=b->o=some F
theorem IsFoot.uniq{b:List Nat}{o p:Option FootS}(h:IsFoot b o)(k:IsFoot b p):o=p:=by
 cases o with
 |some F=>obtain⟨a,b,c⟩:=h.sound F rfl;exact(k.compl F a b c).symm
 |none=>
  cases p with
  |none=>rfl
  |some F=>obtain⟨a,b,c⟩:=k.sound F rfl;exact h.compl F a b c
noncomputable def zp3(b:List Nat):List zbi × St:=getC (some b)
noncomputable def zmt(b:List Nat):Nat × St:=lenS 65536 (zp3 b).2
noncomputable def zt5(k:Int->Int)(b:List Nat):List za9 × St:=
 zbs k (zp3 b).1 (k ((zmt b).1:Int)) (lenS (k ((zmt b).1:Int)) (zmt b).2).1 (lenS (k ((zmt b).1:Int)) (zmt b).2).2
open Classical in
noncomputable def zp4(k:Int->Int)(b:List Nat):Option FootS:=
 if(zt5 k b).2=some []/\zb0 ⟨(zp3 b).1,((zmt b).1:Int),(zt5 k b).1⟩ then some ⟨(zp3 b).1,((zmt b).1:Int),(zt5 k b).1⟩ else none
theorem zob{cols:List zbi}:∀{gs:List za9},(∀g∈gs,GroupOk cols g)->(gs.length:Int)<=(gs.map (·.1)).sum/\ ∀g∈gs,g.1<=(gs.map (·.1)).sum
 | [],_=>by simp
 |g::gs,h=>by
  have ih:=zob (gs:=gs) fun q hq=>h q (by simp[hq])
  have h1:=(h g (by simp)).1;rw[qmp,qpf,qm9];refine⟨by omega,fun q hq=>?_⟩;rcases qnu.1 hq with rfl|hq
  ·omega
  ·have:=ih.2 q hq
   omega
theorem qdq{k:Int->Int}(hk:∀r,0<=r->r<=65536->r<=k r/\k r<=65536){b:List Nat}(h8:∀x∈b,x<256)(hb:b.length<=140737488351232):IsFoot b (zp4 k b):=by
 constructor
 ·intro F hF
  unfold zp4 at hF;split at hF
  ·rename_i hc
   obtain⟨hc1,hc2⟩:=hc;injection hF with hF;subst hF;have hS0:St.ok (some b):=qsq h8;refine⟨hc2,⟨?_,fun g hg=>zi2 _ _ g hg⟩,?_⟩
   ·intro c hcc z hz
    have hC2:∃r,(zp3 b).2=some r:=by
     cases h2:(zp3 b).2 with
     |some r=>exact⟨r,rfl⟩
     |none=>
      exfalso;unfold zt5 zmt at hc1;rw[h2,zu6] at hc1;dsimp only at hc1;rw[zu6] at hc1;dsimp only at hc1;rw[znl] at hc1;cases hc1
    obtain⟨r,hr⟩:=hC2;obtain⟨_,e⟩:=zhq hS0 (show getC (some b)=((zp3 b).1,some r) by rw[<-hr];rfl);injection e with e;refine h8 z ?_;rw[e,qmi];refine qqu _ (qqt _ ?_);refine qov.2 ⟨c,hcc,?_⟩;simp only[z3o,qnd];exact .inl (.inr hz)
   ·obtain⟨C,SC,eC⟩:∃C SC,zp3 b=(C,SC):=⟨_,_,rfl⟩
    obtain⟨N,SN,eN⟩:∃N SN,zmt b=(N,SN):=⟨_,_,rfl⟩;obtain⟨n,Sn,en⟩:∃n Sn,lenS (k (N:Int)) SN=(n,Sn):=⟨_,_,rfl⟩;obtain⟨gs,SG,eG⟩:∃gs SG,zt5 k b=(gs,SG):=⟨_,_,rfl⟩;rw[eG] at hc1;dsimp only at hc1;subst hc1;rw[eC,eN,eG];unfold zt5 at eG;rw[eC,eN] at eG;dsimp only at eG;rw[en] at eG;dsimp only at eG;unfold zmt at eN;rw[eC] at eN;dsimp only at eN;have ok1:SC.ok:=by
     cases SC with
     |none=>exact qsp
     |some r=>
      obtain⟨_,e⟩:=zhq hS0 (show getC (some b)=(C,some r) from eC);injection e with e;exact qsq fun x hx=>h8 x (by rw[e];simp[hx])
    have ok2:SN.ok:=by have:=zb9 (m:=65536) ok1;rwa[eN] at this
    have ok3:Sn.ok:=by have:=zb9 (m:=k (N:Int)) ok2;rwa[en] at this
    obtain⟨e3,hl⟩:=znm n ok3 eG;subst e3;have e4:=(zhr ok2 en).1;subst e4;have e5:=(zhr ok1 eN).1;subst e5;obtain⟨hck,e⟩:=zhq hS0 (show getC (some b)=(C,some _) from eC);injection e with e;unfold ze8 putC;dsimp only;rw[if_pos hck,e,hl];simp
  ·cases hF
 ·intro F h1 h2 h3
  obtain⟨cols,rows,gs⟩:=F;obtain⟨a1,a2,a3,a4,a5⟩:=h1;obtain⟨d1,d2⟩:=h2;dsimp only at a1 a2 a3 a4 a5 d1 d2;obtain⟨r1,r2⟩:=zob a2;have hck:=(zez cols).2 a1;obtain⟨N,rfl⟩:=qn1 (show 0<=rows by omega);have hkN:=hk (N:Int) (by omega) a4;have hb2:b=vp cols.length++zkl cols++(vp N++(vp gs.length++(gs.flatMap (zde cols)++[]))):=by rw[<-h3];unfold ze8 putC;dsimp only;rw[if_pos hck];simp
  have hbl:=congrArg List.length hb2;simp only[qmv] at hbl;have eC:zp3 b=(cols,some (vp N++(vp gs.length++(gs.flatMap (zde cols)++[])))):=by unfold zp3;rw[hb2];exact qdp cols _ hck
  have eN:zmt b=(N,some (vp gs.length++(gs.flatMap (zde cols)++[]))):=by unfold zmt;rw[eC];exact zea N _ (by omega) (by omega)
  have en:lenS (k (N:Int)) (some (vp gs.length++(gs.flatMap (zde cols)++[])))=(gs.length,some (gs.flatMap (zde cols)++[])):=zea _ _ (by omega) (by omega);have eG:zt5 k b=(gs,some []):=by unfold zt5;rw[eC,eN];dsimp only;rw[en];dsimp only;exact zp2 hk (by omega) gs [] (fun g hg=>⟨a2 g hg,by have:=r2 g hg;omega,d2 g hg⟩) (by omega)
  unfold zp4;rw[eC,eN,eG];rw[if_pos ⟨rfl,a1,a2,a3,a4,a5⟩]
end Go.Proofs.Y
namespace Go.Hm
open Go Go.RowKit
def Grows(w w':World)(v v':Value):Prop:=w.grownBy w' v.ownBlock/\(v'.ownBlock=v.ownBlock\/ ∃g,v'.ownBlock=some g/\w.heap.size<=g)
theorem Grows.trans{a b c:World}{u v x:Value}(h:Grows a b u v)(k:Grows b c v x):Grows a c u x:=by
 obtain⟨h1,h2⟩:=h;obtain⟨k1,k2⟩:=k;refine⟨⟨k1.os.trans h1.os,k1.tape.trans h1.tape,k1.output.trans h1.output,qlw h1.size k1.size,fun i hi hne=>?_⟩,?_⟩
 ·refine(k1.block i (qlz hi h1.size) fun e=>?_).trans (h1.block i hi hne)
  rcases h2 with h2|⟨g,h2,hg⟩
  ·rw[h2] at e;exact hne e
  ·rw[h2] at e;injection e with e;omega
 ·rcases k2 with k2|⟨g,k2,hg⟩
  ·rw[k2];exact h2
  ·exact .inr ⟨g,k2,qlw h1.size hg⟩
theorem zdm{w w':World}{row:Option Nat}(h:New w w'):w.grownBy w' row:=⟨h.os,h.tape,h.output,h.size,fun k hk _=>h.block k hk⟩
theorem Grows.of_new{w w':World}{v:Value}(h:New w w'):Grows w w' v v:=⟨zdm h,.inl rfl⟩
theorem Grows.size{w w':World}{v v':Value}(h:Grows w w' v v'):w.heap.size<=w'.heap.size:=h.1.size
theorem Grows.blk{w w':World}{v v':Value}{g:Nat}{t e:TypeId}{cs:Array Value}{base:Nat}{xs:List Value}(h:Grows w w' v v')(o:Own w base e v xs)(B:Blk w g t cs)(hne:e≠t):Blk w' g t cs:=
 B.grown h.1 (fun he=>o.blk_ne B hne he.symm)
theorem Grows.below{w0 w w':World}{v v':Value}{base B:Nat}{e:TypeId}{xs:List Value}(h:Grows w w' v v')(o:Own w base e v xs)(b:Below B w0 w)(hB:B<=base)(hBw:B<=w.heap.size):Below B w0 w':=by refine b.trans ⟨h.1.os,h.1.tape,h.1.output,h.1.size,fun k hk=>h.1.block k (by omega) fun he=>?_⟩;have:=(o.lt k he.symm).1;omega
end Go.Hm
namespace Go.Proofs.Y
open Go.RowKit Go.Hm
def z9c(base:Nat)(v:Value)(l:List Nat)(w:World)(e:Ending)(w':World):Prop:=
 ∃A n c,e= .returned (.slice A n c)/\Go.Hm.Own w' base 5 (.slice A n c) (zah .u8 l)/\Grows w w' v (.slice A n c)
theorem zee{w:World}{base n c N:Nat}{A:Option Addr}{l:List Nat}(o:Go.Hm.Own w base 5 (.slice A n c) (zah .u8 l))(hb:base<=w.heap.size)(hn:n<=100000000000000)(hN:N<=9223372036854775807):
 Calls Tryz.prog 89 #[.slice A n c,.int .i64 (N:Int)] w (z9c base (.slice A n c) (l++vp N) w):=by
 have P:=qrf (zc9 none 0 0 [] N w qrs (by omega) (by omega));have V:=zas (n:=N) (by omega);have hw:IntKind.u64.wrap (N:Int)=(N:Int):=by rw[qrj];omega
 have HO:=qrf o;clear o;go_enter Tryz.func89,Tryz.ntmps89
 go_wp2_with fail
 refine P.out.mono ?_;rintro e w1 ⟨A2,n2,c2,rfl,k2,b2⟩;rw[qmx] at k2;have hq:n2<=10:=by have:=k2.len;rw[zaa] at this;omega
 have o1:=HO.out.later b2;have hz:=b2.size
 go_wp2_with (refine zal elB rfl (.tmp 5) (.tmp 8) rfl (W:=w) (B:=base) o1 k2.reads rfl rfl (qri b2 hb) (ql6 _) (by omega) (by omega) (by simp only[maxLen];omega) ?_
              intro A5 c5 w5 _ _ o5 g5 _ d5)
 go_ret
 exact⟨_,_,_,rfl,o5,(Grows.of_new b2).trans ⟨g5,d5⟩⟩
theorem zwo{t:Int}{p:zbc}(h1:p.1.toNat<18446744073709551616)(h2:p.2.1.toNat<18446744073709551616):(zf4 t p).length<=140020:=by have a:=zas (n:=p.1.toNat) h1;have b:=zas (n:=p.2.1.toNat) h2;have c:=z0y (l:=[]) (t:=t) (s:=p.2.2);unfold zf4;simp only[qmv,qpg] at c⊢;omega
theorem zmx{t:Int}:∀l:List zbc,(∀p∈l,p.1.toNat<18446744073709551616/\p.2.1.toNat<18446744073709551616)->(l.flatMap (zf4 t)).length<=l.length*140020
 | [],_=>by simp
 |p::l,h=>by
  have a:=zwo (t:=t) (h p (by simp)).1 (h p (by simp)).2;have b:=zmx (t:=t) l fun q hq=>h q (by simp[hq])
  rw[qpe,qmv,qm9];omega
def zy2(p:zbc):Prop:=(0<=p.1/\p.1<=9223372036854775807)/\(0<=p.2.1/\p.2.1<=9223372036854775807)/\statData p.2.2
theorem zwp{w:World}{base n c np cp:Nat}{A Ap:Option Addr}{t:Int}{l:List Nat}{ps:List zbc}(o:Go.Hm.Own w base 5 (.slice A n c) (zah .u8 l))(hb:base<=w.heap.size)(h:Reads w base 14 Ap np (recs zhn ps))(hp:∀p∈ps,zy2 p)
 (hn:n+10+np*140020<=100000000000000):
 Calls Tryz.prog 90 #[.slice A n c,.int .i64 t,.slice Ap np cp] w (z9c base (.slice A n c) (l++zgz t ps) w):=by
 obtain rfl:=h.lenPage;have hln:l.length=n:=by have:=o.len;rw[zaa] at this;exact this.symm
 have V:=zas (n:=ps.length) (by omega);have PN:=qrf (zee (N:=ps.length) o hb (by omega) (by omega));have hfl:=fun k=>zmx (t:=t) (ps.take k) (fun p hpm=>by have:=hp p (qmu hpm);have h1:=this.1;have h2:=this.2.1;omega)
 have HF:=qrf (fun k=>by have:=hfl k;rw[ql2] at this;exact this);have HR:=qrf h;have HP:=qrf hp;have HO:=qrf o;have HLN:=qrf hln;clear h hp o hln hfl;go_enter Tryz.func90,Tryz.ntmps90
 go_wp2_with fail
 refine PN.out.mono ?_;rintro e w1 ⟨A1,n1,c1,rfl,o1,g1⟩;have hb1:=g1.size;have b1:Below base w w1:=g1.below HO.out (qq8 _ _) (ql6 _) hb;clear PN;go_wp2_with fail
 go_loopw [0,15] (fun v i wr=>∃(k:Nat) (B:Option Addr) (m d:Nat),k<=ps.length/\i= .int .i64 (k:Int)/\v= .slice B m d/\Go.Hm.Own wr base 5 (.slice B m d) (zah .u8 (l++vp ps.length++(ps.take k).flatMap (zf4 t)))/\Grows w wr (.slice A n c) (.slice B m d)/\Below base w wr) (fun _ i _=>ps.length-(intOf i).toNat)
 case atStart=>exact⟨0,A1,n1,c1,ql7 _,rfl,rfl,by simpa using o1,g1,b1⟩
 case round=>
  obtain⟨k,B,m,d,hk,rfl,rfl,o,g,b⟩:=hrel;clear o1 g1 b1 hb1;have hml:m<=n+10+k*140020:=by have h1:=o.len;rw[zaa,qmv,qmv] at h1;have h2:=HF.out k;have h3:=HLN.out;omega
  have hsz:=g.size;by_cases hlt:k<ps.length
  ·obtain⟨ad,rfl,hbd,d0,d1,d2,d3,d4,d5,d6,d7,d8,d9,d10,d11,d12,d13⟩:=(HR.out.below b).page14 hlt
   have htk:=zae ps k zb1 hlt;have hpn:=HP.out _ (zax zb1 hlt);have hpl:(ps.take (k+1)).flatMap (zf4 t)=(ps.take k).flatMap (zf4 t)++zf4 t (ps.getD k zb1):=by rw[htk,qpl];simp
   rw[show zf4 t (ps.getD k zb1)=vp (ps.getD k zb1).1.toNat++vp (ps.getD k zb1).2.1.toNat++Go.Hm.putS [] t (ps.getD k zb1).2.2 from rfl] at hpl;have HPL:=qrf hpl;clear htk hpl hbd;generalize ps.getD k zb1=p at*;obtain⟨hp1,hp2,hp3⟩:=hpn;have SP:=fun(W:World)=>z79 (w:=W) (c:=0) (t:=t) (l:=[]) (n:=0) (A:=none) qrs (by omega) hp3
   have hspl:=z0y (l:=[]) (t:=t) (s:=p.2.2);obtain⟨szI,rwI,nn,bb,⟨p1,p2,p3,p4,p5⟩,⟨q1,q2,q3,q4,q5⟩⟩:=p;dsimp only at hp1 hp2 hp3 SP hspl HPL d0 d1 d2 d3 d4 d5 d6 d7 d8 d9 d10 d11 d12 d13;obtain⟨sz,rfl⟩:=qn1 hp1.1;obtain⟨rw,rfl⟩:=qn1 hp2.1;simp only[qmt] at HPL;generalize Go.Hm.putS [] t (nn,bb,(p1,p2,p3,p4,p5),(q1,q2,q3,q4,q5))=SB at*;have SP:Hid (∀W,Calls Tryz.prog 113 #[.slice none 0 0,.int .i64 t,.agg #[.int .i64 nn,.bool bb,.bool p1,.int .i64 p2,.string (zai p3),.int .i64 p4,.int .i64 p5,.bool q1,.int .i64 q2,.string (zai q3),.int .i64 q4,.int .i64 q5]] W (zcb SB W)):=qrf SP;have V1:=zas (n:=sz) (by omega);have V2:=zas (n:=rw) (by omega);simp only[qpg] at hspl;have hspl:SB.length<=140000:=by omega
   have ha:New wr (wr.alloc (.cells #[.int .i64 (sz:Int),.int .i64 (rw:Int),.int .i64 nn,.bool bb,.bool p1,.int .i64 p2,.string (zai p3),.int .i64 p4,.int .i64 p5,.bool q1,.int .i64 q2,.string (zai q3),.int .i64 q4,.int .i64 q5] 135)):=(qq8 _ _).alloc (ql6 _) _;have BP:=qrv wr 135 #[.int .i64 (sz:Int),.int .i64 (rw:Int),.int .i64 nn,.bool bb,.bool p1,.int .i64 p2,.string (zai p3),.int .i64 p4,.int .i64 p5,.bool q1,.int .i64 q2,.string (zai q3),.int .i64 q4,.int .i64 q5];have o2:=o.later ha;have g2:=g.trans (Grows.of_new ha);have hsz2:=g2.size;have N1:=qrf (zee (N:=sz) o2 (by omega) (by omega) (by omega));obtain⟨e0,e1,e2,e3,e4,e5,e6,e7,e8,e9,e10,e11,e12,e13⟩:=zd6 BP;have hmq:m+140020<=100000000000000:=by omega
   clear o g ha hp3;go_wp2_with fail
   refine N1.out.mono ?_;rintro e w3 ⟨A3,n3,c3,rfl,o3,g3⟩;have BP3:=g3.blk o2 BP (by decide);have g03:=g2.trans g3;have hq3:n3<=m+10:=by have h1:=o3.len;have h2:=o2.len;rw[zaa,qmv] at h1;rw[zaa] at h2;omega
   have hsz3:=g03.size;have N2:=qrf (zee (N:=rw) o3 (by omega) (by omega) (by omega));clear N1 o2 g2 g3 BP e0 e1 e2 e3 e4 e5 e6 e7 e8 e9 e10 e11 e12 e13 d0 d1 d2 d3 d4 d5 d6 d7 d8 d9 d10 d11 d12 d13;obtain⟨e0,e1,e2,e3,e4,e5,e6,e7,e8,e9,e10,e11,e12,e13⟩:=zd6 BP3;go_wp2_with fail
   refine N2.out.mono ?_;rintro e w4 ⟨A4,n4,c4,rfl,o4,g4⟩;have BP4:=g4.blk o3 BP3 (by decide);have g04:=g03.trans g4;have hq4:n4<=m+20:=by have h1:=o4.len;have h2:=o3.len;rw[zaa,qmv] at h1;rw[zaa] at h2;omega
   have hsz4:=g04.size;clear N2 o3 g03 g4 BP3 e0 e1 e2 e3 e4 e5 e6 e7 e8 e9 e10 e11 e12 e13;obtain⟨e0,e1,e2,e3,e4,e5,e6,e7,e8,e9,e10,e11,e12,e13⟩:=zd6 BP4;go_wp2_with fail
   refine(SP.out _).mono ?_;rintro e w5 ⟨A5,n5,c5,rfl,k5,b5⟩;have hq5:n5<=140000:=by have:=k5.len;rw[zaa] at this;omega
   have o5:=o4.later b5;have g05:=g04.trans (Grows.of_new b5);have hsz5:=g05.size;have bb5:Below base w w5:=g05.below HO.out (qq8 _ _) (ql6 _) hb;clear SP o4 g04 BP4 e0 e1 e2 e3 e4 e5 e6 e7 e8 e9 e10 e11 e12 e13 b5
   go_wp2_with (refine zal elB rfl (.tmp 27) (.tmp 31) rfl (W:=w) (B:=base) o5 k5.reads rfl rfl bb5 (ql6 _) (by omega) (by omega) (by simp only[maxLen];omega) ?_
                intro A6 c6 w6 _ _ o6 g6 b6 d6)
   go_roundw
   case rel=>exact⟨k+1,A6,_,c6,by omega,by go_num,rfl,by rw[HPL.out];simpa using o6,g05.trans ⟨g6,d6⟩,b6⟩
   case measure=>simp[intOf];omega
  ·obtain rfl:k=ps.length:=by omega
   rw[qp1] at o;have HO2:=qrf o;clear o;go_wp2_with fail
   go_ret
   refine⟨_,_,_,rfl,?_,g⟩;have:=HO2.out;rw[qmi] at this;exact this
end Go.Proofs.Y
