/- Merged. -/
import Derived.Test.YtbahbnbpmfgimaaGreatDoorBun34
import Derived.Test.YtbahbnbpmfgimaaGreatDoorBun36
import Derived.Test.YtbahbnbpmfgimaaGreatDoorBun43
set_option maxHeartbeats 2000000
namespace Go.Proofs.Y
open Go Go.RowKit Go.Hm
def Tells(A B:List (List Nat)):Prop:=∃x∈A,∃y∈B,x≠y/\znk x=znk y
theorem Tells.mono{A B A' B':List (List Nat)}(h:Tells A B)(ha:∀x∈A,x∈A')(hb:∀x∈B,x∈B'):Tells A' B':=by obtain⟨x,hx,y,hy,h⟩:=h;exact⟨x,ha x hx,y,hb y hy,h⟩
theorem zh1(k n:Int)(d:List Nat):leafP k n d=[low (u64N_tren k) 8,low (u64N_tren n) 8,d]:=rfl
theorem z1h(s:List Nat)(X:List (List (List Nat))):Digs (X.map (ovD s)):=fun d hd=>by obtain⟨x,_,rfl⟩:=qmn.1 hd;exact zhs _ _
theorem zwb(C:List (List (List (List Nat)))):Digs (C.map zqq):=fun d hd=>by obtain⟨x,_,rfl⟩:=qmn.1 hd;exact z0g _
theorem zwc:∀(C:List (List za6)) (x:List Nat),(zce C x).map List.length=C.map List.length
 | [],_=>rfl
 |l::C,x=>by rw[zce,qnc,qnc,zjj,zwc C]
theorem zps:∀(G:List za4) (x:List Nat),(zfi G x).map (fun X=>X.map List.length)=G.map (fun g=>g.2.map List.length)
 | [],_=>rfl
 |g::G,x=>by rw[zfi,qnc,qnc,zwc,zps G]
def zwd(G:List za4)(b own:List Nat):List (List Nat):=qbe (zfi G (b.drop 4))++zqr own (z5k (zfi G (b.drop 4)))
def zy9(G:List za4)(b own:List Nat):List Nat:=z6u own (z5k (zfi G (b.drop 4)))
open Go Go.RowKit Go.Hm
def wG(X:List (List (List Nat))):Nat:=2*X.flatten.length+3*X.length+1
def wA(C:List (List (List (List Nat)))):Nat:=(C.map wG).sum
theorem zmh(X:List (List (List Nat))):(X.flatMap (ovF zbn)).length<=2*X.flatten.length+X.length:=by
 induction X with
 |nil=>simp
 |cons x X ih=>
  have:=zst zbn x;rw[qp1,qni,qq0,qni,qnu];omega
theorem qed(X:List (List (List Nat))):(zrf X).length<=wG X:=by have h1:=zmh X;have h2:=zst zew (X.map (ovD zbn));rw[qpg] at h2;unfold zrf wG;rw[qni];omega
theorem zkc(C:List (List (List (List Nat)))):(C.flatMap zrf).length<=wA C:=by
 induction C with
 |nil=>simp
 |cons X C ih=>
  have:=qed X;unfold wA at ih⊢;rw[qp1,qni,qnc,qp2];omega
theorem qh5{C:List (List (List (List Nat)))}{k:Nat}(hk:k<C.length):wA (C.take (k+1))=wA (C.take k)+wG (C.getD k []):=by unfold wA;rw[zad C k [] hk,qp6,qp5];simp
theorem qle(C:List (List (List (List Nat))))(k:Nat):wA (C.take k)<=wA C:=by
 unfold wA;conv=>rhs;rw[<-qpl k C,qp6,qp5]
 omega
theorem qh6{X:List (List (List Nat))}{j:Nat}(hj:j<X.length):(X.take (j+1)).flatten.length=(X.take j).flatten.length+(X.getD j []).length:=by rw[zad X j [] hj,qp9,qni];simp
theorem qlf(X:List (List (List Nat)))(j:Nat):(X.take j).flatten.length<=X.flatten.length:=by
 conv=>rhs;rw[<-qpl j X,qp9,qni]
 omega
theorem qj6{X:List (List (List Nat))}(h:∀x∈X,1<=x.length):X.length<=X.flatten.length:=by
 induction X with
 |nil=>simp
 |cons x X ih=>
  have h1:=h x (by simp);have h2:=ih fun y hy=>h y (by simp[hy])
  rw[qq0,qni,qnu];omega
theorem qj7{C:List (List (List (List Nat)))}(h:∀X∈C,∀x∈X,1<=x.length):wA C<=5*C.flatten.flatten.length+C.length:=by
 induction C with
 |nil=>simp[wA]
 |cons X C ih=>
  have h1:=qj6 (h X (by simp));have h2:=ih fun Y hY=>h Y (by simp[hY])
  unfold wA wG at h2⊢;rw[qnc,qp2,qq0,qp9,qni,qnu];omega
theorem qfz:∀{l:List za6},(∀p∈l,1<=p.1)->l.length<=szL l
 | [],_=>by simp
 |p::l,h=>by
  have h1:=h p (by simp);have h2:=qfz (l:=l) fun q hq=>h q (by simp[hq])
  rw[zlj,qnu];omega
theorem qf0:∀{C:List (List za6)},(∀l∈C,∀p∈l,1<=p.1)->(C.map List.length).sum<=szC C
 | [],_=>by simp
 |l::C,h=>by
  have h1:=qfz (h l (by simp));have h2:=qf0 (C:=C) fun q hq=>h q (by simp[hq])
  rw[zlk,qnc,qp2];omega
theorem qf1:∀{G:List za4},(∀g∈G,∀l∈g.2,∀p∈l,1<=p.1)->(G.map fun g=>(g.2.map List.length).sum).sum<=szG G
 | [],_=>by simp
 |g::G,h=>by
  have h1:=qf0 (h g (by simp));have h2:=qf1 (G:=G) fun q hq=>h q (by simp[hq])
  rw[zll,qnc,qp2];omega
theorem z9i(C:List (List (List (List Nat)))):C.flatten.flatten.length=(C.map fun X=>(X.map List.length).sum).sum:=by
 induction C with
 |nil=>rfl
 |cons X C ih=>rw[qq0,qp9,qni,qnc,qp2,ih,List.length_flatten]
theorem qf2{α:Type}{l:List α}{x:α}(d:α)(h:x∈l):∃i,i<l.length/\x=l.getD i d:=by obtain⟨i,hi,rfl⟩:=qpq h;exact⟨i,hi,by rw[qoa,qmm hi];rfl⟩
theorem z1k{F:FootS}(b:List Nat)(h:zbu F):wA (zfi F.groups (b.drop 4))<=5*(zfi F.groups (b.drop 4)).flatten.flatten.length+65536/\(zfi F.groups (b.drop 4)).flatten.flatten.length<=szG F.groups/\(zfi F.groups (b.drop 4)).length<=65536/\(∀X∈zfi F.groups (b.drop 4),X.length<=64/\ ∀x∈X,x.length<=65536/\ ∀p∈x,p.length<=b.length):=by
 have hp:=zlo h;obtain⟨n1,n2,n3⟩:=z1j h;have shp:=zps F.groups (b.drop 4);have hlen:(zfi F.groups (b.drop 4)).length=F.groups.length:=zjk _ _;have hat:∀X∈zfi F.groups (b.drop 4),X.length<=64/\ ∀x∈X,x.length<=65536/\1<=x.length:=by
  intro X hX;obtain⟨k,hk,rfl⟩:=qf2 [] hX;rw[zjk] at hk;obtain⟨m1,m2⟩:=n3 k hk;rw[ziw _ _ _ hk];refine⟨by rw[zlm,m1];exact n2,fun x hx=>?_⟩;obtain⟨j,hj,rfl⟩:=qf2 [] hx;rw[zlm] at hj;rw[cutC_at _ _ _ hj,zjj];have m3:=m2 j (by omega);unfold zaw at m3;refine⟨m3,?_⟩;have hck:=(zji h hk (c:=j) (by omega)).1;have hg1:=(h.2.1 _ (zas zak hk)).1;have:=hck.2;have e0:∀l:List za6,1<=zmb l->1<=l.length:=fun l hl=>by
   cases l with
   |nil=>simp[zmb] at hl
   |cons a l=>simp
  exact e0 (zaw F.groups k j) (by omega)
 have hw:=qj7 (C:=zfi F.groups (b.drop 4)) fun X hX x hx=>((hat X hX).2 x hx).2
 have hge:=qf1 (G:=F.groups) fun g hg l hl p hp'=>(hp g hg l hl p hp').1
 have hfl:(zfi F.groups (b.drop 4)).flatten.flatten.length=(F.groups.map fun g=>(g.2.map List.length).sum).sum:=by rw[z9i];have e:=congrArg (fun z=>(z.map List.sum).sum) shp;simpa[List.map_map,Function.comp_def] using e
 refine⟨by omega,by omega,by omega,fun X hX=>⟨(hat X hX).1,fun x hx=>⟨((hat X hX).2 x hx).1,fun p hp'=>?_⟩⟩⟩;have:=(znv (G:=F.groups) (x:=b.drop 4) (p:=p) (by rw[qq1];exact⟨x,by rw[qq1];exact⟨X,hX,hx⟩,hp'⟩)).2
 rw[qmp] at this;omega
def zza(b:List Nat):Prop:=b.length<=140737488351232/\ ∀F s,openO b=some (F,s)->s.length<=9000000/\(zfi F.groups (b.drop 4)).flatten.flatten.length<=1000000/\ ∀p∈(zfi F.groups (b.drop 4)).flatten.flatten,p.length<=9000000
theorem zkd{b:List Nat}(h8:∀x∈b,x<256)(hb:b.length<=1000000):zza b:=by refine⟨by omega,fun F s ho=>?_⟩;obtain⟨a1,a2,a3,a4,a5,a6,a7⟩:=zny h8 (by omega) ho;obtain⟨f1,f2,f3,f4⟩:=z1k b a1;refine⟨by omega,by omega,fun p hp=>?_⟩;have:=(znv hp).2;rw[qmp] at this;omega
open Go.RowKit Go.Hm
noncomputable def z97(F:FootS)(b:List Nat):List (List Nat):=(zfi F.groups (b.drop 4)).flatten.flatten
theorem z1w{n:Nat}:∀{C:List (List za6)},(∀l∈C,l.length<=n)->C.flatten.length<=C.length*n
 | [],_=>by simp
 |l::C,h=>by
  have h1:=h l (by simp);have h2:=z1w (C:=C) fun q hq=>h q (by simp[hq])
  rw[qq0,qni,qnu,qoo];omega
theorem z1x{cols:List zbb}(hc:cols.length<=64):∀{G:List za4} (x:List Nat),(∀g∈G,GroupOk cols g)->((zfi G x).flatten.flatten.length:Int)<=64*(G.map (·.1)).sum
 | [],x,_=>by simp[zfi]
 |g::G,x,h=>by
  obtain⟨h1,h2,h3⟩:=h g (by simp);have ih:=z1x hc (G:=G) (x.drop (szC g.2)) fun q hq=>h q (by simp[hq])
  obtain⟨n,hn⟩:=qon (show 0<=g.1 by omega);have h4:∀l∈g.2,l.length<=n:=fun l hl=>by obtain⟨i,hi,rfl⟩:=qpq hl;obtain⟨a,b⟩:=h3 i (by omega);rw[qoa,qmm hi] at a b;have a2:=zfg a;simp only[qob] at a2 b;omega
  have h5:=z1w h4;have h6:g.2.length*n<=64*n:=qms _ (by omega);rw[zfi,qq0,qp9,qni,zln,qnc,qp2,hn];omega
theorem z4u{F:FootS}(h:zbu F)(b:List Nat):(z97 F b).length<=4194304:=by have h1:=z1x h.1.1 (b.drop 4) h.2.1;have h2:=h.2.2.1;have h3:=h.2.2.2.1;unfold z97;omega
open Go.RowKit Go.Hm
noncomputable def zw5(b:List Nat)(F:FootS)(g c p:Int):Option (List Nat):=
 if ze0 F g c p<0\/(F.groups.length:Int)<=g then none
 else if(b.length:Int)<4+ze0 F g c p+((zaw F.groups g.toNat c.toNat).getD p.toNat zbv).1 then none
 else some ((b.drop (4+(ze0 F g c p).toNat)).take ((zaw F.groups g.toNat c.toNat).getD p.toNat zbv).1.toNat)
theorem qak{F:FootS}{g c p:Int}(h:0<=ze0 F g c p)(hg:g<(F.groups.length:Int)):
 zbu F/\ ∃gk ck pk:Nat,g=(gk:Int)/\c=(ck:Int)/\p=(pk:Int)/\gk<F.groups.length/\ck<F.cols.length/\pk<(zaw F.groups gk ck).length:=by
 unfold ze0 at h;split at h
 ·rename_i hc
  rw[qoe,qo3,qoe] at hc;obtain⟨h1,h2⟩:=hc;have hok:zbu F:=by unfold zfh at h1;simpa using h1
  rcases h2 with h2|⟨h2,h3⟩
  ·unfold qd7 at h2
   simp only[decide_eq_true_eq] at h2;omega
  ·obtain⟨gk,ck,rfl,rfl,h4,h5⟩:=z8z h2
   unfold pgB at h3;simp only[decide_eq_true_eq,qng] at h3;exact⟨hok,gk,ck,p.toNat,rfl,rfl,by omega,h4,h5,by omega⟩
 ·omega
theorem z14{F:FootS}(h:zbu F){gk ck pk:Nat}(h1:gk<F.groups.length)(h2:ck<F.cols.length)(h3:pk<(zaw F.groups gk ck).length):ze0 F (gk:Int) (ck:Int) (pk:Int)=zcz F.groups gk ck pk:=by
 unfold ze0;have e:zfh F=true:=by unfold zfh;simpa using h
 have e1:inB F.cols.length F.groups.length (gk:Int) (ck:Int)=true:=by unfold inB;simp;omega
 have e2:pgB (zaw F.groups gk ck).length (pk:Int)=true:=by unfold pgB;simp;omega
 simp only[e,e1,qng,e2,qp7,Bool.or_true,if_true]
def qe1(o:Option (List Nat))(w:World)(e:Ending)(w':World):Prop:=
 New w w'/\match o with
 |none=>e= .returned (.tuple #[.slice none 0 0,.bool false])
 |some x=>∃A n c,e= .returned (.tuple #[.slice A n c,.bool true])/\Go.Hm.Own w' w.heap.size 5 (.slice A n c) (zan .u8 x)
set_option maxRecDepth 100000 in
theorem qe2{w:World}{A:Option Addr}{cb:Nat}{b:List Nat}{Ac:Option Addr}{cc:Nat}{L:List zbb}{r:Int}{Ag:Option Addr}{cg:Nat}{G:List GrD}{g c p:Int}
 (hb:Reads w w.heap.size 1 A b.length (zan .u8 b))(hbc:b.length<=cb)
 (h:FootIn w Ac cc L Ag G)(hp:∀g∈G,∀x∈g.2.2.2,∀p∈x.2.2,zeb p.2.2):
 Calls Tryz.prog 33 #[.slice A b.length cb,zli Ac cc L r Ag cg G,.int .i64 g,.int .i64 c,.int .i64 p] w (qe1 (zw5 b (zbx L r G) g c p) w):=by
 have b0:New w (w.alloc (.cells #[.slice Ac L.length cc,.int .i64 r,.slice Ag G.length cg] 79)):=(Below.refl _ _).alloc (qmt _) _;have B0:=Blk.new w 79 #[.slice Ac L.length cc,.int .i64 r,.slice Ag G.length cg];have PL:=Hz (fun(W:World) (hW:New w W)=>zv3 (r:=r) (cc:=cc) (cg:=cg) (g:=g) (c:=c) (p:=p) (h.later hW) hp);have hy:= @qak (zbx L r G) g c p;have hgl:(zbx L r G).groups.length=G.length:=by unfold zbx;simp
 obtain⟨X,hX⟩:∃X,X=zw5 b (zbx L r G) g c p:=⟨_,rfl⟩;rw[<-hX];unfold zw5 at hX;rw[hgl] at hX hy;generalize hV:ze0 (zbx L r G) g c p=V at*;unfold zli at PL⊢;obtain⟨x0,x1,x2⟩:=zao B0;replace hX:=Hz hX;replace hy:=Hz hy;replace hV:=Hz hV;have HF:=Hz h;have HR:=Hz hb;clear h hb hp;go_enter Tryz.func33,Tryz.ntmps33
 go_wp2_with fail
 refine(PL.out _ b0).mono ?_;rintro e w1 ⟨rfl,b1⟩;have b01:=New.trans b0 b1;have B1:=B0.below b1 B0.lt;clear PL x0 x1 x2 B0 b0 b1;obtain⟨x0,x1,x2⟩:=zao B1;by_cases hlt:V<0
 ·have hN:X=none:=by rw[hX.out,if_pos (.inl hlt)]
  subst hN;clear hX hy hV HF HR hgl;go_wp2_with fail
  go_ret2
  exact⟨b01,rfl⟩
 ·by_cases hg:(G.length:Int)<=g
  ·have hN:X=none:=by rw[hX.out,if_pos (.inr hg)]
   subst hN;have hlt2:0<=V:=by omega
   clear hX hy hV HF HR hlt hgl;go_wp2_with fail
   go_ret2
   exact⟨b01,rfl⟩
  ·have hx:=hX.out
   rw[if_neg (by omega)] at hx;obtain⟨hok,gk,ck,pk,rfl,rfl,rfl,h1,h2,h3⟩:=hy.out (by omega) (by omega);have hv0:=hV.out;rw[z14 hok (by rw[hgl];exact h1) h2 h3] at hv0;have hv:=zkb hok (by rw[hgl];exact h1) h2 h3;rw[hv0] at hv;have hcl:(G.getD gk grZ).2.2.2.length=L.length:=by have:=(zct hok (k:=gk) (by rw[hgl];exact h1)).2.1;unfold zbx at this;dsimp only at this;rw[zbq grP G grZ zak h1] at this;unfold grP at this;simpa using this
   have h2:ck<L.length:=h2;have hpa:zaw (zbx L r G).groups gk ck=((G.getD gk grZ).2.2.2.getD ck chZ).2.2:=by unfold zaw zbx;dsimp only;rw[zbq grP G grZ zak h1];exact zbq (fun x:ChD=>x.2.2) (G.getD gk grZ).2.2.2 chZ [] (by omega)
   simp only[qng] at hx;rw[hpa] at hx h3 hv;have FI:=HF.out.later b01;have RB:=Reads.later HR.out b01;have hgm:G.getD gk grZ∈G:=zas grZ h1;obtain⟨rch,_⟩:=FI.chunks _ hgm;have hcm:(G.getD gk grZ).2.2.2.getD ck chZ∈(G.getD gk grZ).2.2.2:=zas chZ (by omega);obtain⟨rpg,_⟩:=FI.pages _ hgm _ hcm;obtain⟨ag,rfl,_,g0,g1⟩:=FI.groups.gr2 h1;have hl5:=FI.few2;generalize G.getD gk grZ=gd at*;obtain⟨gr,Ach,cch,D⟩:=gd;dsimp only at rch hcl hcm rpg g0 g1 hx hv h3;obtain⟨ac,rfl,_,d0⟩:=rch.ch1 (i:=ck) (by omega);generalize D.getD ck chZ=cd at*;obtain⟨Ap,cp,P⟩:=cd;dsimp only at rpg d0 hx hv h3;obtain⟨ap,rfl,_,p0,_⟩:=rpg.page14 h3;have hpl:P.length<=4611686018427387903:=by omega
   generalize(P.getD pk zbv).1=sz at*;obtain⟨vn,rfl⟩:=qon (show 0<=V by omega);obtain⟨sn,rfl⟩:=qon (show 0<=sz by omega);have k1:vn+sn<=1073741824:=by have:=hv.2.1;have:=hv.2.2.1;omega
   simp only[qng] at hx;have HX:=Hz hx;have HCM:=Hz hcm;have hck:ck<D.length:=by omega
   have hcd:D.length<=4611686018427387903:=by have:=FI.few;omega
   have j1:(0:Int)<=(vn:Int):=by omega
   have j2:(gk:Int)<(G.length:Int):=by omega
   have j3:(ck:Int)<(D.length:Int):=by omega
   have j4:(pk:Int)<(P.length:Int):=by omega
   have j5:(vn:Int)+(sn:Int)<=1073741824:=by omega
   replace RB:=Hz RB;clear hX hy hV HF HR hgl hv hv0 hok hpa hx hcm FI rch rpg hgm hcl;by_cases hs:(b.length:Int)<4+(vn:Int)+(sn:Int)
   ·have hN:X=none:=by rw[HX.out,if_pos hs]
    subst hN;have B01:=Hz b01;clear hlt hg RB HX HCM h1 h2 h3 hbc hpl hck hcd k1 hl5 b01;go_wp2_with fail
    go_ret2
    exact⟨B01.out,rfl⟩
   ·have hN:X=some ((b.drop (4+vn)).take sn):=by rw[HX.out,if_neg hs]
    subst hN;have hs2:4+(vn:Int)+(sn:Int)<=(b.length:Int):=by omega
    have S1:(Instr.sliceAt 24 (.slice A b.length cb) (some (.int .i64 (4+(vn:Int)))) (some (.int .i64 (4+(vn:Int)+(sn:Int)))) none).run Tryz.prog w1= .ok (.slice (if cb=4+vn then A else A.map (·.add ((4+vn)*1))) sn (cb-(4+vn))) w1:=by have:=zhi zwt zwu A b.length cb (4+vn) (4+vn+sn) (by omega) (by omega) w1;rwa[show((4+vn:Nat):Int)=4+(vn:Int) by omega,show((4+vn+sn:Nat):Int)=4+(vn:Int)+(sn:Int) by omega,show 4+vn+sn-(4+vn)=sn by omega] at this
    have R1:Reads w1 w1.heap.size 1 (if cb=4+vn then A else A.map (·.add ((4+vn)*1))) sn (zan .u8 ((b.drop (4+vn)).take sn)):=by have:=(RB.out.cut (k:=4+vn) (cap:=cb) (by omega) hbc).take (k:=sn) (by omega);simpa only[qm0,zd4,zem] using this
    have CL:=Hz (zg8 (c:=cb-(4+vn)) R1 (by omega));generalize(if cb=4+vn then A else A.map (·.add ((4+vn)*1)))=A2 at*;generalize cb-(4+vn)=c2 at*;have B01:=Hz b01;clear hlt hg RB HX HCM h1 h2 h3 hbc hpl hck hcd k1 hl5 b01 R1 hs;go_wp2_with fail
    refine CL.out.mono ?_;rintro e w2 ⟨A3,n3,c3,rfl,o3,b2⟩;clear CL S1;go_wp2_with fail
    go_ret2
    exact⟨New.trans B01.out b2,A3,n3,c3,rfl,o3.base_le B01.out.size⟩
open Go.RowKit Go.Hm
section
variable{ops:Array Oper}{rest:List Oper}{o:Oper}{a:Act}{Q:Exit->Act->World->Prop}
theorem zqe{w:World}(hgd:o.guard=none)(s x:Operand)(ho:o.op= .call {callee:= .builtin .append,args:= #[s,x],argTypes:= #[tS,tS]})
 {base n m c:Nat}{v:Value}{xs:List Value}{P:List (List Nat)}{A:Option Addr}(hown:w.ownsRow base tD 32 v n xs)(hr:Reads w w.heap.size 32 A m (recs zet P))(hs:a.eval s=v)(hx:a.eval x= .slice A m c)
 (hbase:base<=w.heap.size)(hn:n+m<=100000)
 (h:∀A' c' w',n+m<=c'->c'<=maxLen->w'.ownsRow base tD 32 (.slice A' (n+m) c') (n+m) (xs++recs zet P)->w.grownBy w' v.ownBlock->wpList Tryz.prog ops Q rest (a.put o.dst (.slice A' (n+m) c')) w'):
 wpList Tryz.prog ops Q (o::rest) a w:=
 wpList_plain hgd fun _ hK=>zj3 elD s x ho hown hr hs hx (Below.refl 0 w) (qmu _) hbase (zlx _) (by omega) (by simp only[maxLen];omega) fun A' c' w' a1 a2 a3 a4 _=>hK _ _ (h A' c' w' a1 a2 a3 a4)
end
def ChSt(w0:World)(base g:Nat)(V:Value)(v:Value)(F P:List (List Nat))(W:World):Prop:=
 ∃V',LogOf tL W base g V' F/\(V'.ownBlock=V.ownBlock\/ ∃h,V'.ownBlock=some h/\w0.heap.size<=h)/\Turns (g::zbi V) w0 W/\W.ownsRow w0.heap.size tD 32 v P.length (recs zet P)
theorem qfb{W W':World}{base base' g n:Nat}{V v:Value}{F:List (List Nat)}{xs:List Value}(o:W.ownsRow base' tD 32 v n xs)(l:LogOf tL W base g V F)(t:Turns (g::zbi V) W W'):W'.ownsRow base' tD 32 v n xs:=by
 refine zil o t (fun x hx=>?_);obtain⟨A,n,c,D,rfl,hg,ho,_⟩:=l;rcases qof.1 hx with rfl|hx
 ·exact zaj o hg (by decide)
 ·exact zj5 o ho (by decide) x hx
theorem qfc{W W':World}{base base' g n:Nat}{V v:Value}{F:List (List Nat)}{xs:List Value}(l:LogOf tL W base g V F)(o:W.ownsRow base' tD 32 v n xs)(gr:W.grownBy W' v.ownBlock):LogOf tL W' base g V F:=by have T1:Turns (zbi v) W W':=Turns.row gr;obtain⟨Al,nl,cl,D,rfl,hg,ho,hp,hD⟩:=l;have l:LogOf tL W base g (.slice Al nl cl) F:=⟨Al,nl,cl,D,rfl,hg,ho,hp,hD⟩;exact l.turn T1 (zda o hg (by decide)) (zj5 ho o (by decide)) (fun x hx _ cs hB=>zda o hB (by decide) hx)
section
variable{w0 W W':World}{base g:Nat}{V v:Value}{F F2 P:List (List Nat)}
theorem ChSt.first(h:LogOf tL w0 base g V F):ChSt w0 base g V (.slice none 0 0) F [] w0:=⟨V,h,.inl rfl,Turns.refl _ _,⟨rfl,.inl ⟨rfl,rfl⟩⟩⟩
theorem ChSt.turn(h:ChSt w0 base g V v F P W){V1 V2:Value}(l1:LogOf tL W base g V1 F)(l2:LogOf tL W' base g V2 F2)(a2:V2.ownBlock=V1.ownBlock\/ ∃h,V2.ownBlock=some h/\W.heap.size<=h)(t2:Turns (g::zbi V1) W W'):ChSt w0 base g V v F2 P W':=by obtain⟨V',l,a,t,o⟩:=h;obtain rfl:=zt7 l l1;exact⟨V2,l2,zf7 t.size a a2,zbp t a t2,qfb o l1 t2⟩
theorem ChSt.new(h:ChSt w0 base g V v F P W)(k:New W W'):ChSt w0 base g V v F P W':=by obtain⟨V',l,a,t,o⟩:=h;exact⟨V',l.new k,a,t.trans (Turns.of_new k),za1 o k⟩
theorem ChSt.push(h:ChSt w0 base g V v F P W){A':Option Addr}{c' n:Nat}{P2:List (List Nat)}(o':W'.ownsRow w0.heap.size tD 32 (.slice A' n c') n (recs zet P2))(hn:n=P2.length)(gr:W.grownBy W' v.ownBlock):ChSt w0 base g V (.slice A' n c') F P2 W':=by subst hn;obtain⟨V',l,a,t,o⟩:=h;exact⟨V',qfc l o gr,a,zhj t (Turns.row gr) (fun x hx=>(zj4 o x hx).1),o'⟩
theorem ChSt.join{w1:World}{vc:Value}{P1:List (List Nat)}(h:ChSt w0 base g V v F P w1){V1:Value}(l1:LogOf tL w1 base g V1 F)(k:ChSt w1 base g V1 vc F2 P1 W):ChSt w0 base g V v F2 P W:=by obtain⟨V',l,a,t,o⟩:=k;exact h.turn l1 l a t
end
theorem qav{w w':World}{A:Option Addr}{b:List Nat}{T:List Nat}{r:ziz}(hT:∀x∈T,x<w.heap.size)(hfar:0<b.length-> ∀ad,A=some ad->ad.block∉T)(h1:RowBIn w' r/\ ∀ad,r.1=some ad->w.heap.size<=ad.block)(h2:∀d∈r.2.2,PieceOf A w' d)
 (h3:∀d∈r.2.2,(∀x∈d.2.2,x<256)/\d.2.2.length<=b.length/\d.2.2.length<=9000000):DataF w' r.1 r.2.2 T:=by
 refine⟨h1.1,fun _ ad ha hm=>?_,fun d hd=>?_⟩
 ·have:=h1.2 ad ha
  have:=hT _ hm;omega
 ·obtain⟨⟨p1,p2,p3⟩,p4⟩:=h2 d hd
  obtain⟨q1,q2,q3⟩:=h3 d hd;refine⟨p1,fun h0 ad ha hm=>?_,p2,p3,q1,q3⟩;obtain⟨a0,e1,e2⟩:=p4 ad ha;rw[e2] at hm;exact hfar (by omega) a0 e1 hm
theorem qfd{W:World}{base base' g n c:Nat}{V:Value}{F:List (List Nat)}{A:Option Addr}{xs:List Value}(h:Go.Hm.Own W base 5 (.slice A n c) xs)(l:LogOf tL W base' g V F):0<xs.length-> ∀ad,A=some ad->ad.block∉g::zbi V:=by
 intro h0 ad ha;subst ha;unfold Go.Hm.Own at h;rcases h.2 with⟨e,h2⟩|⟨g',cap,cur,hv,_,hg,_⟩
 ·omega
 ·injection hv with e1 e2 e3
  injection e1 with e1;subst e1;exact l.notT (show Blk W g' 5 cur from hg) (by decide) (by decide)
theorem zhm{P:Program}{fn:Func}{p q:Tmp}{ty:TypeId}(h:fn.results= #[.cell p ty,.tmp q])(tmps:Array Value)(w:World)(g:Nat)(t:TypeId)(cs:Array Value)(fr:Nat × Nat)(d:TypeDesc)
 (hp:tmps.getD p undef= .pointer (some ⟨g,0,none⟩))(hg:w.heap[g]? =some (.cells cs t fr))
 (hu:P.underlying ty=some d)(hd:(match d with| .struct _| .array _ _=>true|_=>false)=true)(hi:(P.info? ty).map (·.size)=some cs.size):
 (results fn tmps).run P w= .ok (.tuple #[.agg cs,tmps.getD q undef]) w:=by
 have hp':tmps[p]?.getD undef= .pointer (some ⟨g,0,none⟩):=by simpa using hp
 simp[results,h,hp',asAddr,run_loadVar_row w g t ty cs fr d hg hu hd hi]
noncomputable def z5n(b:List Nat):List Nat:=match openO b with|none=>List.replicate 32 0|some x=>zy9 x.1.groups b x.2
noncomputable def qbj(b:List Nat):Int:=match openO b with|none=>2|some _=>0
noncomputable def zxo(b:List Nat):List (List Nat):=match openO b with|none=>[]|some x=>zwd x.1.groups b x.2
theorem zn8(b:List Nat):zh4 (z5n b):=by
 unfold z5n;split
 ·exact⟨rfl,fun x hx=>by have:=(qow.1 hx).2;omega⟩
 ·exact zb3 _ _
theorem qaw{b:List Nat}{F:FootS}{s:List Nat}(ho:openO b=some (F,s)):qbj b=0/\z5n b=zy9 F.groups b s/\zxo b=zwd F.groups b s:=by unfold qbj z5n zxo;rw[ho];exact⟨rfl,rfl,rfl⟩
theorem z2d{b:List Nat}(ho:openO b=none):z5n b=List.replicate 32 0/\qbj b=2/\zxo b=[]:=by unfold z5n qbj zxo;rw[ho];exact⟨rfl,rfl,rfl⟩
def qgc(b:List Nat)(base g:Nat)(V:Value)(F:List (List Nat))(w:World):Ending->World->Prop:=zev tL (.tuple #[dV (z5n b),.int .i64 (qbj b)]) base g V (F++zxo b) w
end Go.Proofs.Y
