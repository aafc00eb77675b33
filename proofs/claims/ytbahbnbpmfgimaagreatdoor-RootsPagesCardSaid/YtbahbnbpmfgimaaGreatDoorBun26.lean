/- Merged. -/
import Derived.Test.YtbahbnbpmfgimaaGreatDoorBun24
set_option maxHeartbeats 4000000
namespace Go.Proofs.Y
open Go Go.RowKit Go.Hm
def zv0(G:List za4)(k:Nat):Int:=((G.take k).map zch).sum
def zrw(g:za4)(j:Nat):Int:=((g.2.take j).map zco).sum
def zcz(G:List za4)(k j q:Nat):Int:=zv0 G k+zrw (G.getD k zak) j+zco ((zaw G k j).take q)
def qd7(ng:Nat)(g c p:Int):Bool:=decide (g=(ng:Int)/\c=0/\p=0)
def pgB(n:Nat)(p:Int):Bool:=decide (0<=p/\p<(n:Int))
noncomputable def ze0(F:FootS)(g c p:Int):Int:=
 if zfh F&&(qd7 F.groups.length g c p||(inB F.cols.length F.groups.length g c&&pgB (zaw F.groups g.toNat c.toNat).length p)) then zcz F.groups g.toNat c.toNat p.toNat else-1
theorem zy0(G:List za4):zcz G 0 0 0=0:=rfl
theorem zkb{F:FootS}(h:zbu F){k j q:Nat}(hk:k<F.groups.length)(hj:j<F.cols.length)(hq:q<(zaw F.groups k j).length):
 0<=zcz F.groups k j q/\zcz F.groups k j (q+1)=zcz F.groups k j q+((zaw F.groups k j).getD q zbv).1/\zcz F.groups k j (q+1)<=1073741824/\1<=((zaw F.groups k j).getD q zbv).1:=by
 obtain⟨hc,hl⟩:=zji h hk hj;have hpos:=fun p (hp:p∈zaw F.groups k j)=>(pageB_most.1 (hc.1 p hp)).1.2.2.1
 have h1:=zb5 (fun p:za6=>p.1) (zaw F.groups k j) q zbv hq;have h2:=ze5 (fun p:za6=>p.1) (zaw F.groups k j) (q+1) (fun p hp=>by have:=hpos p hp;omega);have h3:=zhd (fun p:za6=>p.1) ((zaw F.groups k j).take q) (fun p hp=>by have:=hpos p (qnh hp);omega);have h4:=zvz h (c:=j+1) hk;have h5:=zb5 zco (F.groups.getD k zak).2 j [] (by omega);have h6:=zhd zch (F.groups.take k) (fun g hg=>(h.2.1 g (qnh hg)).nonneg);have h7:=zhd zco ((F.groups.getD k zak).2.take j) (fun l hl=>(zct h hk).sizes l (qnh hl));have h8:=hpos _ (zas zbv hq);unfold zcz zv0 zrw;unfold zaw at*;unfold zco at*;refine⟨by omega,by omega,by omega,h8⟩
theorem zv1{F:FootS}(h:zbu F){k j:Nat}(hk:k<F.groups.length)(hj:j<F.cols.length):zcz F.groups k j (zaw F.groups k j).length=zcz F.groups k (j+1) 0:=by obtain⟨hc,hl⟩:=zji h hk hj;have h5:=zb5 zco (F.groups.getD k zak).2 j [] (by omega);unfold zcz zrw;rw[qql,h5];unfold zaw;simp only[qnj];have:zco []=0:=rfl;omega
theorem zv2{F:FootS}(h:zbu F){k:Nat}(hk:k<F.groups.length):zcz F.groups k F.cols.length 0=zcz F.groups (k+1) 0 0:=by have hl:=(zct h hk).2.1;have h5:=zb5 zch F.groups k zak hk;unfold zcz zv0 zrw;rw[h5,<-hl,qql];simp only[qnj,qnd,List.sum_nil];have:zco []=0:=rfl;unfold zch;omega
set_option maxRecDepth 100000 in
theorem zv3{w:World}{Ac:Option Addr}{cc:Nat}{L:List zbb}{r:Int}{Ag:Option Addr}{cg:Nat}{G:List GrD}(h:FootIn w Ac cc L Ag G)(hp:∀g∈G,∀x∈g.2.2.2,∀p∈x.2.2,zeb p.2.2){g c p:Int}:
 Calls Tryz.prog 69 #[zli Ac cc L r Ag cg G,.int .i64 g,.int .i64 c,.int .i64 p] w (zal (.int .i64 (ze0 (zbx L r G) g c p)) w):=by
 have HR:=fun(W:World) (hW:New w W)=>zmd (r:=r) (cc:=cc) (cg:=cg) (h.later hW) hp
 have HH:=Hz (fun(W:World)=>zm4 (w:=W) (Ac:=Ac) (Ag:=Ag) (nl:=L.length) (cc:=cc) (ng:=G.length) (cg:=cg) (r:=r) (g:=g) (c:=c));have hX:ze0 (zbx L r G) g c p=if zfh (zbx L r G)&&(qd7 G.length g c p||(inB L.length G.length g c&&pgB (zaw (G.map grP) g.toNat c.toNat).length p)) then zcz (G.map grP) g.toNat c.toNat p.toNat else-1:=by unfold ze0 zbx;simp only[qpg]
 have hF:zfh (zbx L r G)=true->zbu (zbx L r G):=fun e=>by unfold zfh at e;simpa using e
 have B0:=Blk.new w 79 #[.slice Ac L.length cc,.int .i64 r,.slice Ag G.length cg];have b0:New w (w.alloc (.cells #[.slice Ac L.length cc,.int .i64 r,.slice Ag G.length cg] 79)):=(Below.refl _ _).alloc (qmt _) _;obtain⟨x0,x1,x2⟩:=zao B0;have HG:=Hz h.groups;have HCH:=Hz h.chunks;have HPG:=Hz h.pages;have hfew2:=h.few2;have hB:= @z8z L.length G.length g c;clear h hp;have hI:inB L.length G.length g c=decide (0<=g/\g<(G.length:Int)/\0<=c/\c<(L.length:Int)):=rfl;generalize inB L.length G.length g c=I at*;show Calls Tryz.prog 69 #[.agg #[.slice Ac L.length cc,.int .i64 r,.slice Ag G.length cg],.int .i64 g,.int .i64 c,.int .i64 p] w (zal (.int .i64 (ze0 (zbx L r G) g c p)) w);generalize ze0 (zbx L r G) g c p=X at*;generalize zfh (zbx L r G)=M at*;have HR:Hid (∀W,New w W->Calls Tryz.prog 87 #[.agg #[.slice Ac L.length cc,.int .i64 r,.slice Ag G.length cg]] W (zal (.bool M) W)):=Hz HR;cases M with
 |false=>
  obtain rfl:X= -1:=by rw[hX];rfl
  clear hX hF hB hI;go_enter Tryz.func69,Tryz.ntmps69
  go_wp2_with fail
  go_step3
  go_wp2_with fail
  refine(HR.out _ b0).mono ?_;rintro e w1 ⟨rfl,b1⟩;have b01:=New.trans b0 b1;clear b0 b1;go_wp2
  try rw[Exit.noGoto_ret]
  go_ret
  exact⟨rfl,b01⟩
 |true=>
  have hok:=hF rfl;clear hF;rw[qp7] at hX;have hHH:∀(W:World) (g' c':Int),Calls Tryz.prog 101 #[.agg #[.slice Ac L.length cc,.int .i64 r,.slice Ag G.length cg],.int .i64 g',.int .i64 c'] W (zal (.bool (inB L.length G.length g' c')) W):=fun W g' c'=>zm4
  have HDL:=Hz (fun(k:Nat) (hk:k<G.length)=>show(G.getD k grZ).2.2.2.length=L.length by have:=(zct hok (k:=k) (by unfold zbx;simpa using hk)).2.1;unfold zbx at this;dsimp only at this;rw[zbq grP G grZ zak hk] at this;unfold grP at this;simpa using this)
  have hPA:=fun(k:Nat) (hk:k<G.length) (j:Nat) (hj:j<(G.getD k grZ).2.2.2.length)=>show zaw (G.map grP) k j=((G.getD k grZ).2.2.2.getD j chZ).2.2 by unfold zaw;rw[zbq grP G grZ zak hk];exact zbq (fun x:ChD=>x.2.2) (G.getD k grZ).2.2.2 chZ [] hj
  have VZ:=Hz (zy0 (G.map grP));have VP:=Hz (fun(k:Nat) (hk:k<G.length) (j:Nat) (hj:j<(G.getD k grZ).2.2.2.length) (q:Nat) (hq:q<((G.getD k grZ).2.2.2.getD j chZ).2.2.length)=>
   show 0<=zcz (G.map grP) k j q/\zcz (G.map grP) k j (q+1)=zcz (G.map grP) k j q+(((G.getD k grZ).2.2.2.getD j chZ).2.2.getD q zbv).1/\zcz (G.map grP) k j (q+1)<=1073741824/\1<=(((G.getD k grZ).2.2.2.getD j chZ).2.2.getD q zbv).1 by
   have e:=hPA k hk j hj;have:=zkb hok (k:=k) (j:=j) (q:=q) (by unfold zbx;simpa using hk) (by unfold zbx;dsimp only;rw[<-HDL.out k hk];exact hj) (by unfold zbx;dsimp only;rw[e];exact hq);unfold zbx at this;dsimp only at this;rw[e] at this;exact this)
  have VC:=Hz (fun(k:Nat) (hk:k<G.length) (j:Nat) (hj:j<(G.getD k grZ).2.2.2.length)=>show zcz (G.map grP) k j ((G.getD k grZ).2.2.2.getD j chZ).2.2.length=zcz (G.map grP) k (j+1) 0 by have e:=hPA k hk j hj;have:=zv1 hok (k:=k) (j:=j) (by unfold zbx;simpa using hk) (by unfold zbx;dsimp only;rw[<-HDL.out k hk];exact hj);unfold zbx at this;dsimp only at this;rw[e] at this;exact this)
  have VG:=Hz (fun(k:Nat) (hk:k<G.length)=>show zcz (G.map grP) k L.length 0=zcz (G.map grP) (k+1) 0 0 from
   zv2 hok (k:=k) (by unfold zbx;simpa using hk))
  by_cases hE:g=(G.length:Int)/\c=0/\p=0
  ·obtain⟨rfl,rfl,rfl⟩:=hE
   have hEB:qd7 G.length (G.length:Int) 0 0=true:=by unfold qd7;simp
   rw[hEB,Bool.true_or,if_pos rfl] at hX;simp only[qng,Int.toNat_zero] at hX;generalize zcz (G.map grP)=V at*;subst hX;clear hB hI hEB hok HH hHH hPA;go_enter Tryz.func69,Tryz.ntmps69
   go_wp2_with fail
   go_step3
   go_wp2_with fail
   refine(HR.out _ b0).mono ?_;rintro e w1 ⟨rfl,b1⟩;have B1:=B0.below b1 B0.lt;have bE:=New.trans b0 b1;clear b0 b1 B0 x0 x1 x2 HR;obtain⟨x0,x1,x2⟩:=zao B1;clear B1;go_wp2_with fail
   go_step3
   go_wp2_with fail
   clear x0 x1 x2;go_loopw [10,63] (fun a i wr=>∃k:Nat,k<=G.length/\i= .int .i64 (k:Int)/\a= .int .i64 (V k 0 0)/\New w wr) (fun _ i _=>G.length-(intOf i).toNat)
   case atStart=>exact⟨0,qmu _,rfl,by rw[VZ.out],bE⟩
   case round=>
    obtain⟨k,hk,rfl,rfl,b⟩:=hrel;clear bE VZ;by_cases hlt:k<G.length
    ·obtain⟨ad,rfl,hb,d0,d1⟩:=(Reads.later HG.out b).gr2 hlt
     have hgm:=zas grZ hlt;have hch:=HCH.out _ hgm;have hpg:=HPG.out _ hgm;have hDl:=HDL.out k hlt;have VPk:=VP.out k hlt;have VCk:=VC.out k hlt;have VGk:=Hz (VG.out k hlt);clear hb hgm;generalize G.getD k grZ=gg at*;obtain⟨gr,Ach,cch,D⟩:=gg;dsimp only at d0 d1 hch hpg hDl VPk VCk;have VPk:=Hz VPk;have VCk:=Hz VCk;have HDl:=Hz hDl;have HCHk:=Hz hch.1;have hchl:=hch.2;have HPGk:=Hz hpg;have ha:New wr (wr.alloc (.cells #[.int .i64 gr,.slice Ach D.length cch] 114)):=(Below.refl _ _).alloc (qmt _) _;have BG:=Blk.new wr 114 #[.int .i64 gr,.slice Ach D.length cch];have b2:=New.trans b ha;obtain⟨z0,z1⟩:=zbz BG;clear b ha BG hch hpg hDl;go_wp2_with fail
     clear z0 z1 d0 d1;go_loopw [10,71] (fun a i wr=>∃j:Nat,j<=D.length/\i= .int .i64 (j:Int)/\a= .int .i64 (V k j 0)/\New w wr) (fun _ i _=>D.length-(intOf i).toNat)
     case atStart=>exact⟨0,qmu _,rfl,rfl,b2⟩
     case round=>
      obtain⟨j,hj,rfl,rfl,b⟩:=hrel;clear b2;by_cases hlj:j<D.length
      ·obtain⟨ac,rfl,hbc,e0⟩:=(Reads.later HCHk.out b).ch1 hlj
       have hxm:=zas chZ hlj;have hpx:=HPGk.out _ hxm;have VPj:=VPk.out j hlj;have VCj:=VCk.out j hlj;clear hbc hxm;generalize D.getD j chZ=x at*;obtain⟨Ax,cx,pl⟩:=x;dsimp only at e0 hpx VPj VCj;have VPj:=Hz VPj;have VCj:=Hz VCj;have HPL:=Hz hpx.1;have hpn:=hpx.2;clear hpx;go_wp2_with fail
       clear e0;go_loopw [10,78] (fun a i wr=>∃q:Nat,q<=pl.length/\i= .int .i64 (q:Int)/\a= .int .i64 (V k j q)/\New w wr) (fun _ i _=>pl.length-(intOf i).toNat)
       case atStart=>exact⟨0,qmu _,rfl,rfl,b⟩
       case round=>
        clear b;obtain⟨q,hq,rfl,rfl,b⟩:=hrel;by_cases hlq:q<pl.length
        ·obtain⟨ap,rfl,hbp,d0,d1,d2,d3,d4,d5,d6,d7,d8,d9,d10,d11,d12,d13⟩:=(Reads.later HPL.out b).page14 hlq
         obtain⟨v1,v2,v3,v4⟩:=VPj.out q hlq;have vs:V k j q+(pl.getD q zbv).1<=1073741824:=by omega
         have vs0:0<=V k j q+(pl.getD q zbv).1:=by omega
         have H2:=Hz v2;clear v2 v3 v4 hbp;generalize pl.getD q zbv=p at*;obtain⟨sz,rw,nn,bb,⟨p1,p2,p3,p4,p5⟩,⟨q1,q2,q3,q4,q5⟩⟩:=p;dsimp only at d0 d1 d2 d3 d4 d5 d6 d7 d8 d9 d10 d11 d12 d13 H2 vs vs0;have ha:New wr (wr.alloc (.cells #[.int .i64 sz,.int .i64 rw,.int .i64 nn,.bool bb,.bool p1,.int .i64 p2,.string (zae p3),.int .i64 p4,.int .i64 p5,.bool q1,.int .i64 q2,.string (zae q3),.int .i64 q4,.int .i64 q5] 135)):=(Below.refl _ _).alloc (qmt _) _;have BP:=Blk.new wr 135 #[.int .i64 sz,.int .i64 rw,.int .i64 nn,.bool bb,.bool p1,.int .i64 p2,.string (zae p3),.int .i64 p4,.int .i64 p5,.bool q1,.int .i64 q2,.string (zae q3),.int .i64 q4,.int .i64 q5];have b2:=New.trans b ha;obtain⟨e0,e1,e2,e3,e4,e5,e6,e7,e8,e9,e10,e11,e12,e13⟩:=zdq BP;clear b ha BP;have nk: ¬k=G.length:=by omega
         have nkz: ¬(k:Int)=(G.length:Int):=by omega
         go_wp2_with fail
         go_roundw
         case rel=>exact⟨q+1,by omega,by go_num,by rw[H2.out],b2⟩
         case measure=>simp[intOf];omega
        ·obtain rfl:q=pl.length:=by omega
         have hvc:=Hz VCj.out;go_wp2
         go_roundw
         case rel=>exact⟨j+1,by omega,by go_num,by rw[hvc.out],b⟩
         case measure=>simp[intOf];omega
      ·obtain rfl:j=D.length:=by omega
       have hvg:=VGk.out;rw[<-HDl.out] at hvg;have hvg:=Hz hvg;go_wp2
       go_roundw
       case rel=>exact⟨k+1,by omega,by go_num,by rw[hvg.out],b⟩
       case measure=>simp[intOf];omega
    ·obtain rfl:k=G.length:=by omega
     go_wp2
     try rw[Exit.noGoto_ret]
     go_ret
     exact⟨rfl,b⟩
  ·have hEB:qd7 G.length g c p=false:=by unfold qd7;simpa using hE
   rw[hEB,Bool.false_or] at hX;clear HH;cases I with
   |false=>
    obtain rfl:X= -1:=by rw[hX];rfl
    have HE:=Hz hE;have HH:=Hz hHH;have hi:∀g' c':Int,g'=g->c'=c->inB L.length G.length g' c'=false:=by rintro _ _ rfl rfl;exact hI.symm
    have HI:=Hz hi;clear hX hB hI hEB hE hok hHH hPA VZ VP VC VG HDL hi;go_enter Tryz.func69,Tryz.ntmps69
    go_wp2_with fail
    go_step3
    go_wp2_with fail
    refine(HR.out _ b0).mono ?_;rintro e w1 ⟨rfl,b1⟩;have B1:=B0.below b1 B0.lt;have b01:=New.trans b0 b1;clear b0 b1 B0 x0 x1 x2;obtain⟨x0,x1,x2⟩:=zao B1;go_wp2_with fail
    all_goals
     first
      |exact absurd ⟨by assumption,by assumption,by assumption⟩ HE.out
      |(refine(HH.out _ _ _).mono ?_
        rw[HI.out _ _ (by omega) (by omega)];rintro e w2 ⟨rfl,b2⟩;have b02:=New.trans b01 b2;clear b01 b2;go_wp2
        all_goals
         first
          |(try rw[Exit.noGoto_ret]
            go_ret
            exact⟨rfl,b02⟩)
          |(exfalso;simp_all;done))
   |true=>
    obtain⟨gk,ck,rfl,rfl,hgk,hck⟩:=hB rfl;rw[qp7] at hX;simp only[qng] at hX;rw[hPA gk hgk ck (by rw[HDL.out gk hgk];exact hck)] at hX;have hHH:=fun(W:World)=>hHH W gk ck
    rw[show inB L.length G.length (gk:Int) (ck:Int)=true from hI.symm] at hHH;have HH:=Hz hHH;have nE: ¬gk=G.length:=by omega
    have nEz: ¬(gk:Int)=(G.length:Int):=by omega
    clear hB hI hEB hE hok hHH hPA;generalize zcz (G.map grP)=V at*;have HX:=Hz hX;clear hX;go_enter Tryz.func69,Tryz.ntmps69
    go_wp2_with fail
    go_step3
    go_wp2_with fail
    refine(HR.out _ b0).mono ?_;rintro e w1 ⟨rfl,b1⟩;have B1:=B0.below b1 B0.lt;have b01:=New.trans b0 b1;clear b0 b1 B0 x0 x1 x2;obtain⟨x0,x1,x2⟩:=zao B1;go_wp2_with fail
    refine(HH.out _).mono ?_;rintro e w2 ⟨rfl,b2⟩;have B2:=B1.below b2 B1.lt;have bI:=New.trans b01 b2;clear b01 b2 B1 x0 x1 x2 HR HH;obtain⟨x0,x1,x2⟩:=zao B2;clear B2;obtain⟨ad0,rfl,hb0,d0,d1⟩:=(Reads.later HG.out bI).gr2 hgk;have hgm:=zas grZ hgk;have hch:=HCH.out _ hgm;have hDl:=HDL.out gk hgk;obtain⟨gg,hgg⟩:∃gg,G.getD gk grZ=gg:=⟨_,rfl⟩;rw[hgg] at d0 d1 hch hDl;have HGG:=Hz hgg;clear hgg hgm hb0;obtain⟨gr,Ach,cch,D⟩:=gg;dsimp only at d0 d1 hch hDl;have hckD:ck<D.length:=by omega
    obtain⟨ac0,rfl,hbc,e0⟩:=(Reads.later hch.1 bI).ch1 hckD;obtain⟨xx,hxx⟩:∃xx,D.getD ck chZ=xx:=⟨_,rfl⟩;rw[hxx] at e0;have HXX:=Hz hxx;clear hxx hbc hch;obtain⟨Ax,cx,pl⟩:=xx;dsimp only at e0;have hX:=HX.out;rw[HGG.out] at hX;dsimp only at hX;rw[HXX.out] at hX;dsimp only at hX;clear HX;by_cases hp0:p<0
    ·obtain rfl:X= -1:=by rw[hX,if_neg];unfold pgB;simp;omega
     clear hX;go_wp2
     try rw[Exit.noGoto_ret]
     go_ret
     exact⟨rfl,bI⟩
    by_cases hp1:(pl.length:Int)<=p
    ·obtain rfl:X= -1:=by rw[hX,if_neg];unfold pgB;simp;omega
     clear hX;go_wp2
     try rw[Exit.noGoto_ret]
     go_ret
     exact⟨rfl,bI⟩
    ·obtain⟨pk,rfl⟩:∃pk:Nat,p=(pk:Int):=⟨p.toNat,by omega⟩
     obtain rfl:X=V gk ck pk:=by rw[hX,if_pos (by unfold pgB;simp;omega)];rfl
     have PKF:=Hz (show∀k j:Nat,k=gk->j=ck->pk<((G.getD k grZ).2.2.2.getD j chZ).2.2.length by rintro _ _ rfl rfl;rw[HGG.out];dsimp only;rw[HXX.out];dsimp only;omega)
     clear hX HGG HXX;go_wp2_with fail
     go_step3
     go_wp2_with fail
     clear d0 d1 e0 hDl hckD hp0 hp1 nE nEz;try generalize((gk:Int)==(G.length:Int))=z1
     try generalize(decide ((pk:Int)<0))=z2
     try generalize(decide (pl.length<=pk))=z3
     try generalize(decide ((pl.length:Int)<=(pk:Int)))=z4
     clear x0 x1 x2;go_loopw [10,63] (fun a i wr=>∃k:Nat,k<=gk/\i= .int .i64 (k:Int)/\a= .int .i64 (V k 0 0)/\New w wr) (fun _ i _=>G.length-(intOf i).toNat)
     case atStart=>exact⟨0,qmu _,rfl,by rw[VZ.out],bI⟩
     case round=>
      obtain⟨k,hk,rfl,rfl,b⟩:=hrel;clear bI VZ;by_cases hlt:k<G.length
      ·obtain⟨ad,hAe,hb,d0,d1⟩:=(Reads.later HG.out b).gr2 hlt
       obtain rfl:=qmh hAe;have hgm:=zas grZ hlt;have hch:=HCH.out _ hgm;have hpg:=HPG.out _ hgm;have hDl:=HDL.out k hlt;have VPk:=VP.out k hlt;have VCk:=VC.out k hlt;have VGk:=Hz (VG.out k hlt);have PKk:=PKF.out k;clear hb hgm;generalize G.getD k grZ=gg at*;obtain⟨gr,Ach,cch,D⟩:=gg;dsimp only at d0 d1 hch hpg hDl VPk VCk PKk;have PKk:=Hz PKk;have VPk:=Hz VPk;have VCk:=Hz VCk;have HDl:=Hz hDl;have HCHk:=Hz hch.1;have hchl:=hch.2;have HPGk:=Hz hpg;have ha:New wr (wr.alloc (.cells #[.int .i64 gr,.slice Ach D.length cch] 114)):=(Below.refl _ _).alloc (qmt _) _;have BG:=Blk.new wr 114 #[.int .i64 gr,.slice Ach D.length cch];have b2:=New.trans b ha;obtain⟨z0,z1⟩:=zbz BG;clear b ha BG hch hpg hDl;go_wp2_with fail
       clear z0 z1 d0 d1;go_loopw [10,71] (fun a i wr=>∃j:Nat,j<=D.length/\i= .int .i64 (j:Int)/\a= .int .i64 (V k j 0)/\Hid (k<gk\/(k=gk/\j<=ck))/\New w wr) (fun _ i _=>D.length-(intOf i).toNat)
       case atStart=>exact⟨0,qmu _,rfl,rfl,Hz (by omega),b2⟩
       case round=>
        obtain⟨j,hj,rfl,rfl,HIN2,b⟩:=hrel;clear b2;by_cases hlj:j<D.length
        ·obtain⟨ac,rfl,hbc,e0⟩:=(Reads.later HCHk.out b).ch1 hlj
         have hxm:=zas chZ hlj;have hpx:=HPGk.out _ hxm;have VPj:=VPk.out j hlj;have VCj:=VCk.out j hlj;have PKj:=PKk.out j;clear hbc hxm;generalize D.getD j chZ=x at*;obtain⟨Ax,cx,pl⟩:=x;dsimp only at e0 hpx VPj VCj PKj;have HPK:=Hz PKj;have VPj:=Hz VPj;have VCj:=Hz VCj;have HPL:=Hz hpx.1;have hpn:=hpx.2;clear hpx;go_wp2_with fail
         clear e0;go_loopw [10,78] (fun a i wr=>∃q:Nat,q<=pl.length/\i= .int .i64 (q:Int)/\a= .int .i64 (V k j q)/\Hid (k<gk\/(k=gk/\(j<ck\/(j=ck/\q<=pk))))/\New w wr) (fun _ i _=>pl.length-(intOf i).toNat)
         case atStart=>exact⟨0,qmu _,rfl,rfl,Hz (by have:=HIN2.out;omega),b⟩
         case round=>
          clear b;obtain⟨q,hq,rfl,rfl,HIN3,b⟩:=hrel;by_cases hlq:q<pl.length
          ·obtain⟨ap,rfl,hbp,d0,d1,d2,d3,d4,d5,d6,d7,d8,d9,d10,d11,d12,d13⟩:=(Reads.later HPL.out b).page14 hlq
           obtain⟨v1,v2,v3,v4⟩:=VPj.out q hlq;have vs:V k j q+(pl.getD q zbv).1<=1073741824:=by omega
           have vs0:0<=V k j q+(pl.getD q zbv).1:=by omega
           have H2:=Hz v2;clear v2 v3 v4 hbp;generalize pl.getD q zbv=p at*;obtain⟨sz,rw,nn,bb,⟨p1,p2,p3,p4,p5⟩,⟨q1,q2,q3,q4,q5⟩⟩:=p;dsimp only at d0 d1 d2 d3 d4 d5 d6 d7 d8 d9 d10 d11 d12 d13 H2 vs vs0;have ha:New wr (wr.alloc (.cells #[.int .i64 sz,.int .i64 rw,.int .i64 nn,.bool bb,.bool p1,.int .i64 p2,.string (zae p3),.int .i64 p4,.int .i64 p5,.bool q1,.int .i64 q2,.string (zae q3),.int .i64 q4,.int .i64 q5] 135)):=(Below.refl _ _).alloc (qmt _) _;have BP:=Blk.new wr 135 #[.int .i64 sz,.int .i64 rw,.int .i64 nn,.bool bb,.bool p1,.int .i64 p2,.string (zae p3),.int .i64 p4,.int .i64 p5,.bool q1,.int .i64 q2,.string (zae q3),.int .i64 q4,.int .i64 q5];have b2:=New.trans b ha;obtain⟨e0,e1,e2,e3,e4,e5,e6,e7,e8,e9,e10,e11,e12,e13⟩:=zdq BP;clear b ha BP;by_cases hit:k=gk/\j=ck/\q=pk
           ·obtain⟨rfl,rfl,rfl⟩:=hit
            clear VPj VCj VPk VCk VGk VP VC VG HDL H2 PKk HPK PKF;generalize V k j q=vv at*;go_wp2_with fail
            try rw[Exit.noGoto_ret]
            go_ret
            exact⟨rfl,b2⟩
           have HN:=Hz (show k<gk\/(k=gk/\(j<ck\/(j=ck/\q+1<=pk))) by have:=HIN3.out;omega);by_cases n1:k=gk
           ·have t1:((k:Int)==(gk:Int))=true:=by simp[n1]
            have N1:=Hz n1;by_cases n2:j=ck
            ·have t2:((j:Int)==(ck:Int))=true:=by simp[n2]
             have N2:=Hz n2;have n3: ¬q=pk:=fun e=>hit ⟨n1,n2,e⟩
             have n3z: ¬(q:Int)=(pk:Int):=by omega
             clear n1 n2 hit;go_wp2_with fail
             go_roundw
             case rel=>exact⟨q+1,by omega,by go_num,by rw[H2.out],HN,b2⟩
             case measure=>simp[intOf];omega
            ·have n2z: ¬(j:Int)=(ck:Int):=by omega
             clear n1 hit;go_wp2_with fail
             go_roundw
             case rel=>exact⟨q+1,by omega,by go_num,by rw[H2.out],HN,b2⟩
             case measure=>simp[intOf];omega
           ·have n1z: ¬(k:Int)=(gk:Int):=by omega
            clear hit;go_wp2_with fail
            go_roundw
            case rel=>exact⟨q+1,by omega,by go_num,by rw[H2.out],HN,b2⟩
            case measure=>simp[intOf];omega
          ·obtain rfl:q=pl.length:=by omega
           have hvc:=Hz VCj.out;have HN:=Hz (show k<gk\/(k=gk/\j+1<=ck) by
            have h1:=HIN3.out;have h2:=HPK.out;rcases h1 with h1|⟨h1,h3|⟨h3,h4⟩⟩
            ·omega
            ·omega
            ·have:=h2 h1 h3
             omega)
           go_wp2
           go_roundw
           case rel=>exact⟨j+1,by omega,by go_num,by rw[hvc.out],HN,b⟩
           case measure=>simp[intOf];omega
        ·obtain rfl:j=D.length:=by omega
         have hvg:=VGk.out;rw[<-HDl.out] at hvg;have hvg:=Hz hvg;go_wp2
         go_roundw
         case rel=>exact⟨k+1,by have:=HIN2.out;have:=HDl.out;omega,by go_num,by rw[hvg.out],b⟩
         case measure=>simp[intOf];omega
      ·exfalso
       omega
end Go.Proofs.Y
namespace Go.Hm
open Go Go.RowKit
def szL(l:List za6):Nat:=(l.map fun p=>p.1.toNat).sum
def szC(C:List (List za6)):Nat:=(C.map szL).sum
def szG(G:List za4):Nat:=(G.map fun g=>szC g.2).sum
def z30:List za6->List Nat->List (List Nat)
 | [],_=>[]
 |p::l,x=>x.take p.1.toNat::z30 l (x.drop p.1.toNat)
def zce:List (List za6)->List Nat->List (List (List Nat))
 | [],_=>[]
 |l::C,x=>z30 l x::zce C (x.drop (szL l))
def zfi:List za4->List Nat->List (List (List (List Nat)))
 | [],_=>[]
 |g::G,x=>zce g.2 x::zfi G (x.drop (szC g.2))
theorem zlj(p:za6)(l:List za6):szL (p::l)=p.1.toNat+szL l:=by simp[szL]
theorem zlk(l:List za6)(C:List (List za6)):szC (l::C)=szL l+szC C:=by simp[szC]
theorem zll(g:za4)(G:List za4):szG (g::G)=szC g.2+szG G:=by simp[szG]
theorem zjj:∀(l:List za6) (x:List Nat),(z30 l x).length=l.length
 | [],_=>rfl
 |p::l,x=>by simp[z30,zjj l]
theorem zlm:∀(C:List (List za6)) (x:List Nat),(zce C x).length=C.length
 | [],_=>rfl
 |l::C,x=>by simp[zce,zlm C]
theorem zjk:∀(G:List za4) (x:List Nat),(zfi G x).length=G.length
 | [],_=>rfl
 |g::G,x=>by simp[zfi,zjk G]
theorem zy1:∀(l:List za6) (x:List Nat) (q:Nat),q<l.length->(z30 l x).getD q []=(x.drop (szL (l.take q))).take (l.getD q zbv).1.toNat
 | [],_,_,h=>by simp at h
 |p::l,x,0,_=>by simp[z30,szL]
 |p::l,x,q+1,h=>by
  simp only[z30,qqq,qqu,zlj];rw[zy1 l _ q (by simpa using h),qpc]
theorem cutC_at:∀(C:List (List za6)) (x:List Nat) (j:Nat),j<C.length->(zce C x).getD j []=z30 (C.getD j []) (x.drop (szC (C.take j)))
 | [],_,_,h=>by simp at h
 |l::C,x,0,_=>by simp[zce,szC]
 |l::C,x,j+1,h=>by
  simp only[zce,qqq,qqu,zlk];rw[cutC_at C _ j (by simpa using h),qpc]
theorem ziw:∀(G:List za4) (x:List Nat) (k:Nat),k<G.length->(zfi G x).getD k []=zce (G.getD k zak).2 (x.drop (szG (G.take k)))
 | [],_,_,h=>by simp at h
 |g::G,x,0,_=>by simp[zfi,szG]
 |g::G,x,k+1,h=>by
  simp only[zfi,qqq,qqu,zll];rw[ziw G _ k (by simpa using h),qpc]
theorem z1e{l:List za6}{q:Nat}(h:q<l.length):szL (l.take (q+1))=szL (l.take q)+(l.getD q zbv).1.toNat:=by rw[zad _ q zbv h];unfold szL;rw[qp6,qp5];simp
theorem ztv{C:List (List za6)}{j:Nat}(h:j<C.length):szC (C.take (j+1))=szC (C.take j)+szL (C.getD j []):=by rw[zad _ j [] h];unfold szC;rw[qp6,qp5];simp
theorem ztw{G:List za4}{k:Nat}(h:k<G.length):szG (G.take (k+1))=szG (G.take k)+szC (G.getD k zak).2:=by rw[zad _ k zak h];unfold szG;rw[qp6,qp5];simp
theorem qfv(l:List za6)(q:Nat):szL (l.take q)<=szL l:=by
 have e:szL l=szL (l.take q)+szL (l.drop q):=by unfold szL;rw[<-qp5,<-qp6,qpl]
 omega
theorem qfw(C:List (List za6))(q:Nat):szC (C.take q)<=szC C:=by
 have e:szC C=szC (C.take q)+szC (C.drop q):=by unfold szC;rw[<-qp5,<-qp6,qpl]
 omega
theorem qfx(G:List za4)(q:Nat):szG (G.take q)<=szG G:=by
 have e:szG G=szG (G.take q)+szG (G.drop q):=by unfold szG;rw[<-qp5,<-qp6,qpl]
 omega
theorem zv4:∀(l:List za6) (x:List Nat),(z30 l x).flatten=x.take (szL l)
 | [],x=>by simp[z30,szL]
 |p::l,x=>by
  rw[z30,qq0,zv4 l,zlj,qq2]
theorem zv5:∀(C:List (List za6)) (x:List Nat),(zce C x).flatten.flatten=x.take (szC C)
 | [],x=>by simp[zce,szC]
 |l::C,x=>by
  rw[zce,qq0,qp9,zv4,zv5 C,zlk,qq2]
theorem zv6:∀(G:List za4) (x:List Nat),(zfi G x).flatten.flatten.flatten=x.take (szG G)
 | [],x=>by simp[zfi,szG]
 |g::G,x=>by
  rw[zfi,qq0,qp9,qp9,zv5,zv6 G,zll,qq2]
theorem zm5{α:Type}{p:List α}:∀{L:List (List α)},p∈L->p.length<=L.flatten.length
 | [],h=>by cases h
 |q::L,h=>by
  rw[qq0,qni];rcases qof.1 h with rfl|h
  ·omega
  ·have:=zm5 h
   omega
theorem znv{G:List za4}{x p:List Nat}(h:p∈(zfi G x).flatten.flatten):(∀y∈p,y∈x)/\p.length<=x.length:=by
 have e:=zv6 G x;refine⟨fun y hy=>?_,?_⟩
 ·have:y∈(zfi G x).flatten.flatten.flatten:=qq1.2 ⟨p,h,hy⟩
  rw[e] at this;exact qnh this
 ·have h1:p.length<=(zfi G x).flatten.flatten.flatten.length:=zm5 h
  rw[e,qmq] at h1;omega
theorem zln:∀(C:List (List za6)) (x:List Nat),(zce C x).flatten.length=C.flatten.length
 | [],_=>rfl
 |l::C,x=>by
  rw[zce,qq0,qni,zln C,zjj,qq0,qni]
theorem z80{l:List za6}(h:∀p∈l,0<=p.1):(szL l:Int)=zco l:=by
 induction l with
 |nil=>rfl
 |cons p l ih=>
  have h1:=h p (by simp);have h2:=ih fun q hq=>h q (by simp[hq])
  rw[zlj,zka];omega
theorem z81{C:List (List za6)}(h:∀l∈C,∀p∈l,0<=p.1):(szC C:Int)=(C.map zco).sum:=by
 induction C with
 |nil=>rfl
 |cons l C ih=>
  have h1:=z80 (h l (by simp));have h2:=ih fun q hq=>h q (by simp[hq])
  rw[zlk,qnc,qp2];omega
theorem zy2{G:List za4}(h:∀g∈G,∀l∈g.2,∀p∈l,0<=p.1):(szG G:Int)=(G.map zch).sum:=by
 induction G with
 |nil=>rfl
 |cons g G ih=>
  have h1:=z81 (h g (by simp));have h2:=ih fun q hq=>h q (by simp[hq])
  rw[zll,qnc,qp2];unfold zch;unfold zch at h2;omega
theorem zlo{F:FootS}(h:zbu F):∀g∈F.groups,∀l∈g.2,∀p∈l,1<=p.1/\p.1<=268435456/\1<=p.2.1/\p.2.1<=65536:=by intro g hg l hl p hp;obtain⟨h1,h2,h3⟩:=h.2.1 g hg;obtain⟨i,hi,rfl⟩:=qpq hl;have:=(h3 i (by omega)).1 p (by rw[qoa,qmm hi];exact hp);have:=(pageB_most.1 this).1;omega
end Go.Hm
namespace Go.Proofs.Y
open Go Go.RowKit Go.Hm
theorem z31{F:FootS}(h:zbu F){k j q:Nat}(hk:k<F.groups.length)(hj:j<F.cols.length):
 zcz F.groups k j q=((szG (F.groups.take k)+szC ((F.groups.getD k zak).2.take j)+szL ((zaw F.groups k j).take q):Nat):Int):=by
 have hp:=zlo h;have hgk:F.groups.getD k zak∈F.groups:=zas zak hk;have hlen:=(zct h hk).2.1;have h1:=zy2 (G:=F.groups.take k) (fun g hg l hl p hpp=>by have:=hp g (qnh hg) l hl p hpp;omega);have h2:=z81 (C:=(F.groups.getD k zak).2.take j) (fun l hl p hpp=>by have:=hp _ hgk l (qnh hl) p hpp;omega);have h3:=z80 (l:=(zaw F.groups k j).take q) (fun p hpp=>by have hm:zaw F.groups k j∈(F.groups.getD k zak).2:=zas [] (by omega);have:=hp _ hgk _ hm p (qnh hpp);omega)
 unfold zcz zv0 zrw;omega
theorem z32{F:FootS}(h:zbu F):zcz F.groups F.groups.length 0 0=(szG F.groups:Int):=by have h1:=zy2 (G:=F.groups) (fun g hg l hl p hpp=>by have:=zlo h g hg l hl p hpp;omega);unfold zcz zv0 zrw;rw[qql];simp only[qnj,qnd,List.sum_nil];have:zco []=0:=rfl;omega
end Go.Proofs.Y
