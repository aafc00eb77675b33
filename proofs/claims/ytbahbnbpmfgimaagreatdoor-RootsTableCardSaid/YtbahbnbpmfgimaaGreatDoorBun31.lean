import Derived.Test.YtbahbnbpmfgimaaGreatDoorBun27
import Derived.Test.YtbahbnbpmfgimaaGreatDoorBun28
set_option maxHeartbeats 4000000
set_option maxRecDepth 100000
namespace Go.Proofs.Y
open Go.RowKit Go.Hm
theorem zrc{m:Int}{rows:Int}(b:rows<=m)(hm:m<=9223372036854775807):∀(cs:List za2) (a:List (List za3)) (r:List Nat),a.length=cs.length->
 (∀i,i<cs.length->ze0 (cs.getD i ([],0,false)).2.1 (cs.getD i ([],0,false)).2.2 (a.getD i []) rows)->(∀l∈a,∀p∈l,statData p.2.2)->(zbu cs a).length+r.length<=140737488351232->
 zbk m cs (some (zbu cs a++r))=(a,some r)
 | [],[],r,_,_,_,_=>rfl
 | [],l::a,_,h,_,_,_=>by simp at h
 |c::cs,[],_,h,_,_,_=>by simp at h
 |c::cs,l::a,r,hlen,hok,hd,hr=>by
  simp only[zbu,qrp] at hr;have h0:=hok 0 (by simp);simp only[qu5] at h0;simp only[zbu,qrc,zbk];rw[z58 h0 b hm (hd l (by simp)) (by rw[qrp];omega)];dsimp only;rw[zrc b hm cs a r (by simpa using hlen) (fun i f=>by have:=hok (i+1) (by simp;omega);simpa using this) (fun e d=>hd e (by simp[d])) (by omega)]
noncomputable def zdx(k:Int->Int)(cols:List za2)(m:Int)(S:St):za6 × St:=
 ((((lenS m S).1:Int),(zbk (k ((lenS m S).1:Int)) cols (lenS m S).2).1),(zbk (k ((lenS m S).1:Int)) cols (lenS m S).2).2)
noncomputable def zbp(k:Int->Int)(cols:List za2)(m:Int):Nat->St->List za6 × St
 |0,S=>([],S)
 |_+1,none=>([],none)
 |n+1,some l=>((zdx k cols m (some l)).1::(zbp k cols m n (zdx k cols m (some l)).2).1,(zbp k cols m n (zdx k cols m (some l)).2).2)
theorem zxu{k:Int->Int}{cols:List za2}{m:Int}{S:St}(h:S.ok):(zdx k cols m S).2.ok:=ztn _ (zbo h)
theorem z0p{k:Int->Int}{cols:List za2}{m:Int}{S:St}:∀l∈(zdx k cols m S).1.2,∀p∈l,statData p.2.2:=zoq _ _
theorem zos(k:Int->Int)(cols:List za2)(m:Int)(n:Nat):zbp k cols m n none=([],none):=by cases n<;> rfl
theorem zjs{k:Int->Int}{cols:List za2}{m:Int}:∀(n:Nat) (S:St),∀g∈(zbp k cols m n S).1,∀l∈g.2,∀p∈l,statData p.2.2
 |0,_,g,a=>by simp[zbp] at a
 |_+1,none,g,a=>by simp[zbp] at a
 |n+1,some b,g,a=>by
  simp only[zbp,qsm] at a;rcases a with rfl|a
  ·exact z0p
  ·exact zjs n _ g a
theorem z0q{k:Int->Int}{cols:List za2}{m:Int}{S:St}{g:za6}{r:List Nat}(c:S.ok)(h:zdx k cols m S=(g,some r)):S=some (zc4 cols g++r):=by
 unfold zdx at h;obtain⟨N,a,e⟩:∃N a,lenS m S=(N,a):=⟨_,_,rfl⟩;have b:a.ok:=by have:=zbo (m:=m) c;rwa[e] at this
 rw[e] at h;dsimp only at h;simp only[qqg] at h;obtain⟨rfl,f⟩:=h;have d:=zor cols b (show zbk (k (N:Int)) cols a=((zbk (k (N:Int)) cols a).1,some r) by rw[<-f]);rw[(zh5 c (show lenS m S=(N,some _) by rw[e,<-d])).1];simp[zc4]
theorem zot{k:Int->Int}{cols:List za2}{m:Int}:∀(n:Nat) {S:St} {gs:List za6} {r:List Nat},S.ok->zbp k cols m n S=(gs,some r)->S=some (gs.flatMap (zc4 cols)++r)/\gs.length=n
 |0,S,gs,r,_,h=>by
  simp only[zbp,qqg] at h;obtain⟨rfl,rfl⟩:=h;exact⟨rfl,rfl⟩
 |n+1,none,gs,r,_,h=>by
  simp only[zbp,qqg] at h;cases h.2
 |n+1,some b,gs,r,a,h=>by
  simp only[zbp,qqg] at h;obtain⟨rfl,f⟩:=h;obtain⟨c,d⟩:=zot n (S:=(zdx k cols m (some b)).2) (zxu a) (show zbp k cols m n (zdx k cols m (some b)).2=((zbp k cols m n (zdx k cols m (some b)).2).1,some r) by rw[<-f]);have e:=z0q a (show zdx k cols m (some b)=((zdx k cols m (some b)).1,some _) by rw[<-c]);refine⟨?_,by rw[qr1,d]⟩;rw[qt6,qrc];exact e
theorem z59{k:Int->Int}(o:∀r,0<=r->r<=65536->r<=k r/\k r<=65536){cols:List za2}{m:Int}{g:za6}{r:List Nat}(h:GroupOk cols g)(a:g.1<=m)(hm:m<=65536)(f:∀l∈g.2,∀p∈l,statData p.2.2)
 (i:(zc4 cols g).length+r.length<=140737488351232):zdx k cols m (some (zc4 cols g++r))=(g,some r):=by
 obtain⟨j,d,e⟩:=h;obtain⟨b,q⟩:=g;dsimp only at j d e a f;obtain⟨n,rfl⟩:=qsu (show 0<=b by omega);have c:=o (n:Int) (by omega) (by omega);unfold zc4 at i⊢;simp only[qrn,qrp] at i⊢;unfold zdx;rw[qrc,zb9 n _ a (by omega)];dsimp only;rw[zrc c.1 (by omega) cols q r d e f (by omega)]
theorem zrd{k:Int->Int}(d:∀r,0<=r->r<=65536->r<=k r/\k r<=65536){cols:List za2}{m:Int}(hm:m<=65536):∀(gs:List za6) (r:List Nat),(∀g∈gs,GroupOk cols g/\g.1<=m/\ ∀l∈g.2,∀p∈l,statData p.2.2)->
 (gs.flatMap (zc4 cols)).length+r.length<=140737488351232->zbp k cols m gs.length (some (gs.flatMap (zc4 cols)++r))=(gs,some r)
 | [],r,_,_=>rfl
 |g::gs,r,h,hr=>by
  obtain⟨a,b,c⟩:=h g (by simp);rw[qt6,qrp] at hr;rw[qt6,qrc,qr1];simp only[zbp];rw[z59 d a b hm c (by rw[qrp];omega)];dsimp only;rw[zrd d hm gs r (fun q e=>h q (by simp[e])) (by omega)]
structure IsFoot(b:List Nat)(o:Option FootS):Prop where
 sound:∀F,o=some F->zbs F/\zfg F/\zek F=b
 compl:∀F,zbs F->zfg F->zek F=b->o=some F
theorem IsFoot.uniq{b:List Nat}{o p:Option FootS}(h:IsFoot b o)(k:IsFoot b p):o=p:=by
 cases o with
 |some F=>obtain⟨a,b,c⟩:=h.sound F rfl;exact(k.compl F a b c).symm
 |none=>
  cases p with
  |none=>rfl
  |some F=>obtain⟨a,b,c⟩:=k.sound F rfl;exact h.compl F a b c
noncomputable def zre(b:List Nat):List za2 × St:=getC (some b)
noncomputable def znw(b:List Nat):Nat × St:=lenS 65536 (zre b).2
noncomputable def zvc(k:Int->Int)(b:List Nat):List za6 × St:=
 zbp k (zre b).1 (k ((znw b).1:Int)) (lenS (k ((znw b).1:Int)) (znw b).2).1 (lenS (k ((znw b).1:Int)) (znw b).2).2
open Classical in
noncomputable def zo0(k:Int->Int)(b:List Nat):Option FootS:=
 if(zvc k b).2=some []/\zbs ⟨(zre b).1,((znw b).1:Int),(zvc k b).1⟩ then some ⟨(zre b).1,((znw b).1:Int),(zvc k b).1⟩ else none
theorem zmz{cols:List za2}:∀{gs:List za6},(∀g∈gs,GroupOk cols g)->(gs.length:Int)<=(gs.map (·.1)).sum/\ ∀g∈gs,g.1<=(gs.map (·.1)).sum
 | [],_=>by simp
 |g::gs,h=>by
  have ih:=zmz (gs:=gs) fun q a=>h q (by simp[a])
  have b:=(h g (by simp)).1;rw[qrj,qt7,qr1];refine⟨by omega,fun q a=>?_⟩;rcases qsm.1 a with rfl|a
  ·omega
  ·have:=ih.2 q a
   omega
theorem qg2{k:Int->Int}(S:∀r,0<=r->r<=65536->r<=k r/\k r<=65536){b:List Nat}(H:∀x∈b,x<256)(hb:b.length<=140737488351232):IsFoot b (zo0 k b):=by
 constructor
 ·intro F hF
  unfold zo0 at hF;split at hF
  ·rename_i Z
   obtain⟨d,K⟩:=Z;injection hF with hF;subst hF;have o:St.ok (some b):=qxp H;refine⟨K,⟨?_,fun g s=>zjs _ _ g s⟩,?_⟩
   ·intro c L z hz
    have I:∃r,(zre b).2=some r:=by
     cases G:(zre b).2 with
     |some r=>exact⟨r,rfl⟩
     |none=>
      exfalso;unfold zvc znw at d;rw[G,zhu] at d;dsimp only at d;rw[zhu] at d;dsimp only at d;rw[zos] at d;cases d
    obtain⟨r,hr⟩:=I;obtain⟨_,e⟩:=zh4 o (show getC (some b)=((zre b).1,some r) by rw[<-hr];rfl);injection e with e;refine H z ?_;rw[e,qrc];refine qvt _ (qvs _ ?_);refine qtj.2 ⟨c,L,?_⟩;simp only[z50,qr5];exact .inl (.inr hz)
   ·obtain⟨C,w,j⟩:∃C w,zre b=(C,w):=⟨_,_,rfl⟩
    obtain⟨N,y,i⟩:∃N y,znw b=(N,y):=⟨_,_,rfl⟩;obtain⟨n,B,p⟩:∃n B,lenS (k (N:Int)) y=(n,B):=⟨_,_,rfl⟩;obtain⟨f,O,h⟩:∃f O,zvc k b=(f,O):=⟨_,_,rfl⟩;rw[h] at d;dsimp only at d;subst d;rw[j,i,h];unfold zvc at h;rw[j,i] at h;dsimp only at h;rw[p] at h;dsimp only at h;unfold znw at i;rw[j] at i;dsimp only at i;have t:w.ok:=by
     cases w with
     |none=>exact qxo
     |some r=>
      obtain⟨_,e⟩:=zh4 o (show getC (some b)=(C,some r) from j);injection e with e;exact qxp fun x hx=>H x (by rw[e];simp[hx])
    have u:y.ok:=by have:=zbo (m:=65536) t;rwa[i] at this
    have M:B.ok:=by have:=zbo (m:=k (N:Int)) u;rwa[p] at this
    obtain⟨U,hl⟩:=zot n M h;subst U;have V:=(zh5 u p).1;subst V;have W:=(zh5 t i).1;subst W;obtain⟨l,e⟩:=zh4 o (show getC (some b)=(C,some _) from j);injection e with e;unfold zek putC;dsimp only;rw[if_pos l,e,hl];simp
  ·cases hF
 ·intro F X G Y
  obtain⟨a,v,f⟩:=F;obtain⟨D,A,P,E,Q⟩:=X;obtain⟨T,R⟩:=G;dsimp only at D A P E Q T R;obtain⟨r1,r2⟩:=zmz A;have l:=(zdv a).2 D;obtain⟨N,rfl⟩:=qsu (show 0<=v by omega);have a0:=S (N:Int) (by omega) E;have q:b=vp a.length++zlv a++(vp N++(vp f.length++(f.flatMap (zc4 a)++[]))):=by rw[<-Y];unfold zek putC;dsimp only;rw[if_pos l];simp
  have J:=congrArg List.length q;simp only[qrp] at J;have j:zre b=(a,some (vp N++(vp f.length++(f.flatMap (zc4 a)++[])))):=by unfold zre;rw[q];exact qg1 a _ l
  have i:znw b=(N,some (vp f.length++(f.flatMap (zc4 a)++[]))):=by unfold znw;rw[j];exact zb9 N _ (by omega) (by omega)
  have p:lenS (k (N:Int)) (some (vp f.length++(f.flatMap (zc4 a)++[])))=(f.length,some (f.flatMap (zc4 a)++[])):=zb9 _ _ (by omega) (by omega);have h:zvc k b=(f,some []):=by unfold zvc;rw[j,i];dsimp only;rw[p];dsimp only;exact zrd S (by omega) f [] (fun g s=>⟨A g s,by have:=r2 g s;omega,R g s⟩) (by omega)
  unfold zo0;rw[j,i,h];rw[if_pos ⟨rfl,D,A,P,E,Q⟩]
end Go.Proofs.Y
namespace Go.Hm
open Go Go.RowKit
open Classical in
noncomputable def zsj(F:FootS):Option (List Nat):=if zbs F then some (zek F) else none
theorem zou:∀(c:Nat) (cs:List za2) (a:List (List za3)),c<cs.length->c<a.length->zbu (cs.take (c+1)) (a.take (c+1))=zbu (cs.take c) (a.take c)++zf4 (cs.getD c zeo).2.1 (a.getD c [])
 |0,x::cs,l::a,_,_=>by simp[zbu]
 |c+1,x::cs,l::a,h1,h2=>by
  have:=zou c cs a (by simpa using h1) (by simpa using h2);simp only[qva,zbu,qu1] at this⊢;rw[this,qrc]
 |_,[],_,h,_=>by simp at h
 |_,_::_,[],_,h=>by simp at h
theorem zov{cols:List za2}:∀{gs:List za6},(∀g∈gs,GroupOk cols g)->0<=(gs.map (·.1)).sum
 | [],_=>by simp
 |g::gs,h=>by
  have:=zov (gs:=gs) fun q a=>h q (by simp[a])
  have:=(h g (by simp)).1;rw[qrj,qt7];omega
end Go.Hm
namespace Go.Proofs.Y
open Go.RowKit Go.Hm
theorem PageFine.num{p:za3}(h:PageFine p){t:Int}{nu:Bool}{m:Int}(a:zi8 t nu p m=true):z00 p:=by have b:=(pageB_most.1 a).1;exact⟨by omega,⟨by omega,h.2.2.2⟩,CellFine.data h.1.1.1,CellFine.data h.1.1.2⟩
theorem z3a{L:List za2}(h:zq6 L):(putC [] L).length<=8000:=by
 unfold putC;split
 ·have b:=z2y L (fun x a=>(h.2.1 x a).2.1)
  have c:=zae (n:=L.length) (by have:=h.1;omega);have:=h.1;simp only[qrp,qub];omega
 ·simp
theorem z01{w:World}{Ac:Option Addr}{cc:Nat}{L:List za2}{r:Int}{Ag:Option Addr}{cg:Nat}{G:List GrD}(h:FootIn w Ac cc L Ag G)(hp:∀g∈G,∀x∈g.2.2.2,∀p∈x.2.2,PageFine p):
 Calls Tryz.prog 52 #[zmp Ac cc L r Ag cg G] w (OptB (zsj (zb0 L r G)) w):=by
 have V:=qwk (fun(W:World) (hW:New w W)=>znv (cg:=cg) (r:=r) (h.later hW) (fun g hg x hx p E=>(hp g hg x hx p E).stat));have HG:=qwk h.groups;have HL:=qwk h.cols;have e9:=h.few;have i0:=h.few2;have K:=h.fine;have e8:=h.cap;have f8:=qwk h.chunks;have g5:=qwk h.pages;have HP:=qwk hp;clear h hp;obtain⟨M,H⟩:∃M,M=zsj (zb0 L r G):=⟨_,rfl⟩;rw[<-H];unfold zsj at H;show Calls Tryz.prog 52 #[.agg #[.slice Ac L.length cc,.int .i64 r,.slice Ag G.length cg]] w (OptB M w);have B0:=qw1 w 79 #[.slice Ac L.length cc,.int .i64 r,.slice Ag G.length cg];have b0:New w (w.alloc (.cells #[.slice Ac L.length cc,.int .i64 r,.slice Ag G.length cg] 79)):=(qwd _ _).alloc (qq0 _) _;obtain⟨S,T,U⟩:=zan B0;by_cases s:zbs (zb0 L r G)
 ·rw[if_pos s] at H
  rw[znu s] at V;have V:Hid (∀W,New w W->Calls Tryz.prog 87 #[.agg #[.slice Ac L.length cc,.int .i64 r,.slice Ag G.length cg]] W (zap (.bool true) W)):=V;have O:=s;obtain⟨y,a,q,hr,-⟩:=s;unfold zb0 at O a q H;dsimp only[zb0] at y hr;dsimp only at a q;have c1:=zov a;rw[q] at c1;obtain⟨rN,rfl⟩:=qsu c1;unfold zek at H;dsimp only at H;rw[qrn,qtl] at H;have k0:=z3a y;have e2:=qwk (fun(W:World) (hW:New w W)=>qgy (A:=none) (n:=0) (c:=0) (b:=[]) (c2:=cc) qwy (by omega) (qxj HL.out hW) K e8 e9);have d6:=qwk (fun(k:Nat) (hk:k<G.length)=>zbm grP G (k:=k) grZ zao hk);have I:=qwk (show(G.map grP).length=G.length from qtl ..);have d7:=qwk O;have j2:L.length<=64:=y.1;have j9:G.length<=65536:=by have:=(zmz a).1;rw[qtl,q] at this;omega
  have HM:=qwk H;clear H a q c1 O y K;generalize G.map grP=u at*;generalize putC [] L=PC at*;go_enter Tryz.func52,Tryz.ntmps52
  go_wp2_with fail
  refine(V.out _ b0).mono ?_;rintro e j ⟨rfl,b1⟩;have B1:=B0.below b1 B0.lt;have X:=qw5 b0 b1;clear B0 b0 b1 S T U V;obtain⟨S,T,U⟩:=zan B1;go_wp2_with fail
  refine(e2.out _ X).mono ?_;rintro e w2 ⟨A2,n2,c2,rfl,o2,b2⟩;have k4:n2<=8000:=by have:=o2.len;rw[zaa] at this;omega
  have J:w.heap.size<=j.heap.size:=X.size;have B2:=B1.below b2 B1.lt;have j7:w.heap.size<j.heap.size:=B1.lt;have f6:=b2.size;have N1:=qwk (zel (N:=rN) o2 f6 (by omega) (by omega));have VR:=zae (n:=rN) (by omega);have VG:=zae (n:=G.length) (by omega);clear e2 B1 S T U;obtain⟨S,T,U⟩:=zan B2;go_wp2_with fail
  refine N1.out.mono ?_;rintro e w3 ⟨A3,n3,c3,rfl,o3,g3⟩;have k5:n3<=8010:=by have Z:=o3.len;have h2:=o2.len;rw[zaa,qrp] at Z;rw[zaa] at h2;omega
  have e3:=g3.below o2 b2 (qq0 _) f6;have k6:=g3.size;have N2:=qwk (zel (N:=G.length) o3 (by omega) (by omega) (by omega));have B3:=g3.blk o2 B2 (by decide);clear N1 o2 g3 B2 S T U b2;obtain⟨S,T,U⟩:=zan B3;go_wp2_with fail
  refine N2.out.mono ?_;rintro e w4 ⟨A4,n4,c4,rfl,o4,g4⟩;have i5:n4<=8020:=by have Z:=o4.len;have h2:=o3.len;rw[zaa,qrp] at Z;rw[zaa] at h2;omega
  have e4:=g4.below o3 e3 (qq0 _) (by omega);have k7:=g4.size;have B4:=g4.blk o3 B3 (by decide);have f5:j.heap.size<=w4.heap.size:=by omega
  clear N2 o3 g4 B3 S T U e3;obtain⟨S,T,U⟩:=zan B4;go_wp2_with fail
  clear S T U;go_loopw [4,27] (fun v i wr=>∃(k:Nat) (B:Option Addr) (m d R:Nat),k<=G.length/\i= .int .i64 (k:Int)/\v= .slice B m d/\Go.Hm.Own wr j.heap.size 5 (.slice B m d) (zar .u8 (PC++vp rN++vp G.length++(u.take k).flatMap (zc4 L)))
   /\(R:Int)=((u.take k).map (·.1)).sum/\m<=9000+700*k+8961280*R/\Blk wr w.heap.size 79 #[.slice Ac L.length cc,.int .i64 (rN:Int),.slice Ag G.length cg]/\Below j.heap.size j wr/\j.heap.size<=wr.heap.size) (fun _ i _=>G.length-(intOf i).toNat)
  case atStart=>exact⟨0,A4,n4,c4,0,qq1 _,rfl,rfl,by simpa using o4,by simp,by omega,B4,e4,f5⟩
  case round=>
   obtain⟨k,Bv,m,d,R,hk,rfl,rfl,o,hR,i2,B,bb,j1⟩:=hrel;clear o4 B4 e4 i5;have bw:New w wr:=qw5 X bb;by_cases a3:k<G.length
   ·obtain⟨ad,rfl,hb,d0,d1⟩:=(qxj HG.out bw).gr2 a3
    have a1:=zah grZ a3;have b4:=f8.out _ a1;have b7:=g5.out _ a1;have b9:=HP.out _ a1;have a5:=d6.out k a3;have l:k<u.length:=by rw[I.out];exact a3
    have a:=d7.out.2.1 (u.getD k zao) (zah zao l);have f:=zxj d7.out l;have F:=zb6 (fun g:za6=>g.1) u k zao l;have C:(u.take (k+1)).flatMap (zc4 L)=(u.take k).flatMap (zc4 L)++zc4 L (u.getD k zao):=by rw[zac u k zao l,quf];simp
    dsimp only at a f F;rw[a5] at a f F C;generalize G.getD k grZ=g at*;obtain⟨gI,a7,a9,D⟩:=g;unfold grP at a f F C;dsimp only at d0 d1 b4 b7 b9 a f F C;obtain⟨i1,a0,b5⟩:=a;dsimp only at i1 a0 b5;obtain⟨gr,rfl⟩:=qsu (show 0<=gI by omega);rw[qtl] at a0;rw[show zc4 L ((gr:Int),D.map fun x:ChD=>x.2.2)=vp gr++zbu L (D.map fun x:ChD=>x.2.2) from rfl] at C;have k1:gr+R<=65536:=by omega
    have e7:((R+gr:Nat):Int)=((u.take (k+1)).map (·.1)).sum:=by rw[F,<-hR];simp
    have g8:=qwk e7;have f9:=qwk C;have g0:=qwk b5;have d4:=qwk b4.1;have d8:=qwk b7;have d9:=qwk b9;have j8:D.length<=L.length:=by omega
    have d5:=qwk a0;clear a5 l a1 hb b4 b7 b9 F f hR e7 C b5 a0;have ha:New wr (wr.alloc (.cells #[.int .i64 (gr:Int),.slice a7 D.length a9] 114)):=(qwd _ _).alloc (qq0 _) _;have BG:=qw1 wr 114 #[.int .i64 (gr:Int),.slice a7 D.length a9];have B5:=B.below ha B.lt;have o5:=o.later ha;have e5:Below j.heap.size j (wr.alloc (.cells #[.int .i64 (gr:Int),.slice a7 D.length a9] 114)):=bb.trans (qwo ha j1);obtain⟨z0,z1⟩:=zb3 BG;have N1:=qwk (zel (N:=gr) o5 (by simp;omega) (by omega) (by omega));have j6:=zae (n:=gr) (by omega);have g1:=qwk i2;have k2:m<=700000000000:=by omega
    clear B o bb ha;go_wp2_with fail
    refine N1.out.mono ?_;rintro e w6 ⟨A6,n6,c6,rfl,o6,g6⟩;have i6:n6<=m+10:=by have Z:=o6.len;have h2:=o5.len;rw[zaa,qrp] at Z;rw[zaa] at h2;omega
    have e6:=g6.below o5 e5 (qq0 _) (by simp;omega);have f7:=g6.size;simp only[qww] at f7;have B6:=g6.blk o5 B5 (by decide);have d3:=g6.blk o5 BG (by decide);have a6:j.heap.size<=w6.heap.size:=by omega
    clear N1 o5 g6 B5 BG z0 z1 e5;obtain⟨z0,z1⟩:=zb3 d3;have hY:∃Y,Y=10+gr*140020:=⟨_,rfl⟩;obtain⟨Y,hY⟩:=hY;have h0:=qwk hY;clear d0 d1 hY;go_wp2_with fail
    clear z0 z1 d3;go_loopw [4,38] (fun v i wr=>∃(c:Nat) (Bq:Option Addr) (m2 d2:Nat),c<=D.length/\i= .int .i64 (c:Int)/\v= .slice Bq m2 d2
     /\Go.Hm.Own wr j.heap.size 5 (.slice Bq m2 d2) (zar .u8 (PC++vp rN++vp G.length++(u.take k).flatMap (zc4 L)++vp gr++zbu (L.take c) ((D.map (fun x:ChD=>x.2.2)).take c)))
     /\m2<=m+10+c*Y/\Blk wr w.heap.size 79 #[.slice Ac L.length cc,.int .i64 (rN:Int),.slice (some ad) G.length cg]/\Below j.heap.size j wr/\j.heap.size<=wr.heap.size) (fun _ i _=>D.length-(intOf i).toNat)
    case atStart=>exact⟨0,A6,n6,c6,qq1 _,rfl,rfl,by simpa[zbu] using o6,by omega,B6,e6,a6⟩
    case round=>
     obtain⟨c,Bq,m2,d2,hc,rfl,rfl,oq,b6,Bx,a8,c9⟩:=hrel;clear o6 i6 B6 e6 a6 f7;have bq:New w wr:=qw5 X a8;have h8:c*Y<=64*Y:=qqz _ (by omega);have h5:=h0.out;have j4:m2<=90000000000000:=by omega
     by_cases a2:c<D.length
     ·have b3:c<L.length:=by omega
      obtain⟨ac,rfl,h6,e0⟩:=(qxj d4.out bq).ch1 a2;obtain⟨al,rfl,h7,f0,f1,f2⟩:=(qxj HL.out bq).colT b3;have c8:=zah chZ a2;have c0:=d8.out _ c8;have c5:=d9.out _ c8;have z:=g0.out c b3;have P:=zou c L (D.map fun x:ChD=>x.2.2) b3 (by rw[qtl];exact a2);rw[zbm (fun x:ChD=>x.2.2) D chZ [] a2] at z P;generalize D.getD c chZ=x at*;obtain⟨Ax,cx,Q⟩:=x;dsimp only at e0 c0 c5 z P;have b8:∀p∈Q,z00 p:=fun p E=>(c5 p E).num (z.1 p E)
      have i4:=zfy z.1;have h9:=z.2;have k3:Q.length<=gr:=by omega
      have rP:Reads wr j.heap.size 14 Ax Q.length (recs zh1 Q):=(c0.1.below bq).more J;generalize L.getD c zeo=h4 at*;obtain⟨nm,t,nu⟩:=h4;dsimp only at f0 f1 f2 P;have j5:Q.length<=65536:=by omega
      have i3:m2+10+Q.length*140020<=100000000000000:=by clear h8 b6;omega
      have e1:=qwk (zx7 (t:=t) (cp:=cx) oq c9 rP b8 i3);have f3:(zf4 t Q).length<=10+Q.length*140020:=by
       have Z:=zn2 (t:=t) Q (fun p E=>by have:=b8 p E;have Z:=this.1;have h2:=this.2.1;omega)
       have h2:=zae (n:=Q.length) (by omega);unfold zf4;rw[qrp];omega
      have j3:(zf4 t Q).length<=Y:=by omega
      have g9:=qwk P;obtain⟨S,T,U⟩:=zan Bx;clear P z h9 i4 b8 c0 c5 c8 h6 h7 rP f3 h5;go_wp2_with fail
      refine e1.out.mono ?_;rintro e w7 ⟨A7,n7,c7,rfl,o7,g7⟩;have i7:n7<=m2+Y:=by have Z:=o7.len;have h2:=oq.len;rw[zaa,qrp] at Z;rw[zaa] at h2;omega
      have h3:=g7.below oq a8 (qq0 _) c9;have k8:=g7.size;have B7:=g7.blk oq Bx (by decide);have i9:(c+1)*Y=c*Y+Y:=qsv c Y;have o7:Go.Hm.Own w7 j.heap.size 5 (.slice A7 n7 c7) (zar .u8 (PC++vp rN++vp G.length++(u.take k).flatMap (zc4 L)++vp gr++zbu (L.take (c+1)) ((D.map (fun x:ChD=>x.2.2)).take (c+1)))):=by rw[g9.out];simpa using o7
      have i8:n7<=m+10+(c+1)*Y:=by omega
      have j0:j.heap.size<=w7.heap.size:=by omega
      clear e1 oq g7 Bx S T U i9 i7 b6;go_wp2_with fail
      go_roundw
      case rel=>exact⟨c+1,A7,n7,c7,by omega,by go_num,rfl,o7,i8,B7,h3,j0⟩
      case measure=>simp[intOf];omega
     ·obtain rfl:c=D.length:=by omega
      have a4:PC++vp rN++vp G.length++(u.take k).flatMap (zc4 L)++vp gr++zbu (L.take D.length) ((D.map (fun x:ChD=>x.2.2)).take D.length)=PC++vp rN++vp G.length++(u.take (k+1)).flatMap (zc4 L):=by rw[f9.out,d5.out,quw,show(D.map fun x:ChD=>x.2.2).take L.length=D.map fun x:ChD=>x.2.2 from qru (by rw[qtl,d5.out];exact qq0 _)];simp
      rw[a4] at oq;have f4:m2<=9000+700*(k+1)+8961280*(R+gr):=by have:=g1.out;omega
      clear a4 b6;go_wp2_with fail
      go_roundw
      case rel=>exact⟨k+1,Bq,m2,d2,R+gr,by omega,by go_num,rfl,oq,g8.out,f4,Bx,a8,c9⟩
      case measure=>simp[intOf];omega
   ·obtain rfl:k=G.length:=by omega
    have g2:=qwk o;clear o hR;go_wp2_with fail
    go_ret2
    rw[HM.out];have:=g2.out;rw[<-I.out,quw,I.out] at this;exact⟨_,_,_,rfl,this.base_le J,bw⟩
 ·rw[if_neg s] at H
  rw[zq7 s] at V;have V:Hid (∀W,New w W->Calls Tryz.prog 87 #[.agg #[.slice Ac L.length cc,.int .i64 r,.slice Ag G.length cg]] W (zap (.bool false) W)):=V;have HM:=qwk H;clear H s;go_enter Tryz.func52,Tryz.ntmps52
  go_wp2_with fail
  refine(V.out _ b0).mono ?_;rintro e j ⟨rfl,b1⟩;go_wp2_with fail
  go_ret2
  rw[HM.out];exact⟨rfl,qw5 b0 b1⟩
end Go.Proofs.Y
