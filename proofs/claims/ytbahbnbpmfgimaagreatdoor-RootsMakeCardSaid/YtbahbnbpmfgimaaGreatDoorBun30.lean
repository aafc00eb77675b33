import Derived.Test.YtbahbnbpmfgimaaGreatDoorBun28
set_option maxHeartbeats 4000000
set_option maxRecDepth 100000
namespace Go.Proofs.Y
open Go Go.RowKit Go.Hm
def zv5(G:List za9)(k:Nat):Int:=((G.take k).map zcq).sum
def zr2(g:za9)(j:Nat):Int:=((g.2.take j).map zcz).sum
def zc8(G:List za9)(k j q:Nat):Int:=zv5 G k+zr2 (G.getD k zaq) j+zcz ((za0 G k j).take q)
def qdn(ng:Nat)(g c p:Int):Bool:=decide (g=(ng:Int)/\c=0/\p=0)
def pgB(n:Nat)(p:Int):Bool:=decide (0<=p/\p<(n:Int))
noncomputable def zfc(F:FootS)(g c p:Int):Int:=
 if zfw F&&(qdn F.groups.length g c p||(inB F.cols.length F.groups.length g c&&pgB (za0 F.groups g.toNat c.toNat).length p)) then zc8 F.groups g.toNat c.toNat p.toNat else-1
theorem zyq(G:List za9):zc8 G 0 0 0=0:=rfl
theorem zkd{F:FootS}(h:zb0 F){k j q:Nat}(hk:k<F.groups.length)(hj:j<F.cols.length)(hq:q<(za0 F.groups k j).length):
 0<=zc8 F.groups k j q/\zc8 F.groups k j (q+1)=zc8 F.groups k j q+((za0 F.groups k j).getD q zb1).1/\zc8 F.groups k j (q+1)<=1073741824/\1<=((za0 F.groups k j).getD q zb1).1:=by
 obtain⟨hc,hl⟩:=zjo h hk hj;have hpos:=fun p (hp:p∈za0 F.groups k j)=>(pageB_most.1 (hc.1 p hp)).1.2.2.1
 have h1:=zca (fun p:zbc=>p.1) (za0 F.groups k j) q zb1 hq;have h2:=zfj (fun p:zbc=>p.1) (za0 F.groups k j) (q+1) (fun p hp=>by have:=hpos p hp;omega);have h3:=zhp (fun p:zbc=>p.1) ((za0 F.groups k j).take q) (fun p hp=>by have:=hpos p (qmu hp);omega);have h4:=zv4 h (c:=j+1) hk;have h5:=zca zcz (F.groups.getD k zaq).2 j [] (by omega);have h6:=zhp zcq (F.groups.take k) (fun g hg=>(h.2.1 g (qmu hg)).nonneg);have h7:=zhp zcz ((F.groups.getD k zaq).2.take j) (fun l hl=>(zc5 h hk).sizes l (qmu hl));have h8:=hpos _ (zax zb1 hq);unfold zc8 zv5 zr2;unfold za0 at*;unfold zcz at*;refine⟨by omega,by omega,by omega,h8⟩
theorem zv6{F:FootS}(h:zb0 F){k j:Nat}(hk:k<F.groups.length)(hj:j<F.cols.length):zc8 F.groups k j (za0 F.groups k j).length=zc8 F.groups k (j+1) 0:=by obtain⟨hc,hl⟩:=zjo h hk hj;have h5:=zca zcz (F.groups.getD k zaq).2 j [] (by omega);unfold zc8 zr2;rw[qp1,h5];unfold za0;simp only[qmw];have:zcz []=0:=rfl;omega
theorem zv7{F:FootS}(h:zb0 F){k:Nat}(hk:k<F.groups.length):zc8 F.groups k F.cols.length 0=zc8 F.groups (k+1) 0 0:=by have hl:=(zc5 h hk).2.1;have h5:=zca zcq F.groups k zaq hk;unfold zc8 zv5 zr2;rw[h5,<-hl,qp1];simp only[qmw,qmq,List.sum_nil];have:zcz []=0:=rfl;unfold zcq;omega
theorem zv8{w:World}{Ac:Option Addr}{cc:Nat}{L:List zbi}{r:Int}{Ag:Option Addr}{cg:Nat}{G:List GrD}(h:FootIn w Ac cc L Ag G)(hp:∀g∈G,∀x∈g.2.2.2,∀p∈x.2.2,zep p.2.2){g c p:Int}:
 Calls Tryz.prog 69 #[zln Ac cc L r Ag cg G,.int .i64 g,.int .i64 c,.int .i64 p] w (zak (.int .i64 (zfc (zb5 L r G) g c p)) w):=by
 have HR:=fun(W:World) (hW:New w W)=>zms (r:=r) (cc:=cc) (cg:=cg) (h.later hW) hp
 have HH:=qrf (fun(W:World)=>znh (w:=W) (Ac:=Ac) (Ag:=Ag) (nl:=L.length) (cc:=cc) (ng:=G.length) (cg:=cg) (r:=r) (g:=g) (c:=c));have hX:zfc (zb5 L r G) g c p=if zfw (zb5 L r G)&&(qdn G.length g c p||(inB L.length G.length g c&&pgB (za0 (G.map grP) g.toNat c.toNat).length p)) then zc8 (G.map grP) g.toNat c.toNat p.toNat else-1:=by unfold zfc zb5;simp only[qos]
 have hF:zfw (zb5 L r G)=true->zb0 (zb5 L r G):=fun e=>by unfold zfw at e;simpa using e
 have B0:=qrv w 79 #[.slice Ac L.length cc,.int .i64 r,.slice Ag G.length cg];have b0:New w (w.alloc (.cells #[.slice Ac L.length cc,.int .i64 r,.slice Ag G.length cg] 79)):=(qq8 _ _).alloc (ql6 _) _;obtain⟨x0,x1,x2⟩:=zar B0;have HG:=qrf h.groups;have HCH:=qrf h.chunks;have HPG:=qrf h.pages;have hfew2:=h.few2;have hB:= @z8u L.length G.length g c;clear h hp;have hI:inB L.length G.length g c=decide (0<=g/\g<(G.length:Int)/\0<=c/\c<(L.length:Int)):=rfl;generalize inB L.length G.length g c=I at*;show Calls Tryz.prog 69 #[.agg #[.slice Ac L.length cc,.int .i64 r,.slice Ag G.length cg],.int .i64 g,.int .i64 c,.int .i64 p] w (zak (.int .i64 (zfc (zb5 L r G) g c p)) w);generalize zfc (zb5 L r G) g c p=X at*;generalize zfw (zb5 L r G)=M at*;have HR:Hid (∀W,New w W->Calls Tryz.prog 87 #[.agg #[.slice Ac L.length cc,.int .i64 r,.slice Ag G.length cg]] W (zak (.bool M) W)):=qrf HR;cases M with
 |false=>
  obtain rfl:X= -1:=by rw[hX];rfl
  clear hX hF hB hI;go_enter Tryz.func69,Tryz.ntmps69
  go_wp2_with fail
  go_step3
  go_wp2_with fail
  refine(HR.out _ b0).mono ?_;rintro e w1 ⟨rfl,b1⟩;have b01:=qr0 b0 b1;clear b0 b1;go_wp2
  try rw[qrr]
  go_ret
  exact⟨rfl,b01⟩
 |true=>
  have hok:=hF rfl;clear hF;rw[qpk] at hX;have hHH:∀(W:World) (g' c':Int),Calls Tryz.prog 101 #[.agg #[.slice Ac L.length cc,.int .i64 r,.slice Ag G.length cg],.int .i64 g',.int .i64 c'] W (zak (.bool (inB L.length G.length g' c')) W):=fun W g' c'=>znh
  have HDL:=qrf (fun(k:Nat) (hk:k<G.length)=>show(G.getD k grZ).2.2.2.length=L.length by have:=(zc5 hok (k:=k) (by unfold zb5;simpa using hk)).2.1;unfold zb5 at this;dsimp only at this;rw[zbw grP G grZ zaq hk] at this;unfold grP at this;simpa using this)
  have hPA:=fun(k:Nat) (hk:k<G.length) (j:Nat) (hj:j<(G.getD k grZ).2.2.2.length)=>show za0 (G.map grP) k j=((G.getD k grZ).2.2.2.getD j chZ).2.2 by unfold za0;rw[zbw grP G grZ zaq hk];exact zbw (fun x:ChD=>x.2.2) (G.getD k grZ).2.2.2 chZ [] hj
  have VZ:=qrf (zyq (G.map grP));have VP:=qrf (fun(k:Nat) (hk:k<G.length) (j:Nat) (hj:j<(G.getD k grZ).2.2.2.length) (q:Nat) (hq:q<((G.getD k grZ).2.2.2.getD j chZ).2.2.length)=>
   show 0<=zc8 (G.map grP) k j q/\zc8 (G.map grP) k j (q+1)=zc8 (G.map grP) k j q+(((G.getD k grZ).2.2.2.getD j chZ).2.2.getD q zb1).1/\zc8 (G.map grP) k j (q+1)<=1073741824/\1<=(((G.getD k grZ).2.2.2.getD j chZ).2.2.getD q zb1).1 by
   have e:=hPA k hk j hj;have:=zkd hok (k:=k) (j:=j) (q:=q) (by unfold zb5;simpa using hk) (by unfold zb5;dsimp only;rw[<-HDL.out k hk];exact hj) (by unfold zb5;dsimp only;rw[e];exact hq);unfold zb5 at this;dsimp only at this;rw[e] at this;exact this)
  have VC:=qrf (fun(k:Nat) (hk:k<G.length) (j:Nat) (hj:j<(G.getD k grZ).2.2.2.length)=>show zc8 (G.map grP) k j ((G.getD k grZ).2.2.2.getD j chZ).2.2.length=zc8 (G.map grP) k (j+1) 0 by have e:=hPA k hk j hj;have:=zv6 hok (k:=k) (j:=j) (by unfold zb5;simpa using hk) (by unfold zb5;dsimp only;rw[<-HDL.out k hk];exact hj);unfold zb5 at this;dsimp only at this;rw[e] at this;exact this)
  have VG:=qrf (fun(k:Nat) (hk:k<G.length)=>show zc8 (G.map grP) k L.length 0=zc8 (G.map grP) (k+1) 0 0 from
   zv7 hok (k:=k) (by unfold zb5;simpa using hk))
  by_cases hE:g=(G.length:Int)/\c=0/\p=0
  ·obtain⟨rfl,rfl,rfl⟩:=hE
   have hEB:qdn G.length (G.length:Int) 0 0=true:=by unfold qdn;simp
   rw[hEB,Bool.true_or,if_pos rfl] at hX;simp only[qmt,Int.toNat_zero] at hX;generalize zc8 (G.map grP)=V at*;subst hX;clear hB hI hEB hok HH hHH hPA;go_enter Tryz.func69,Tryz.ntmps69
   go_wp2_with fail
   go_step3
   go_wp2_with fail
   refine(HR.out _ b0).mono ?_;rintro e w1 ⟨rfl,b1⟩;have B1:=B0.below b1 B0.lt;have bE:=qr0 b0 b1;clear b0 b1 B0 x0 x1 x2 HR;obtain⟨x0,x1,x2⟩:=zar B1;clear B1;go_wp2_with fail
   go_step3
   go_wp2_with fail
   clear x0 x1 x2;go_loopw [10,63] (fun a i wr=>∃k:Nat,k<=G.length/\i= .int .i64 (k:Int)/\a= .int .i64 (V k 0 0)/\New w wr) (fun _ i _=>G.length-(intOf i).toNat)
   case atStart=>exact⟨0,ql7 _,rfl,by rw[VZ.out],bE⟩
   case round=>
    obtain⟨k,hk,rfl,rfl,b⟩:=hrel;clear bE VZ;by_cases hlt:k<G.length
    ·obtain⟨ad,rfl,hb,d0,d1⟩:=(qsg HG.out b).gr2 hlt
     have hgm:=zax grZ hlt;have hch:=HCH.out _ hgm;have hpg:=HPG.out _ hgm;have hDl:=HDL.out k hlt;have VPk:=VP.out k hlt;have VCk:=VC.out k hlt;have VGk:=qrf (VG.out k hlt);clear hb hgm;generalize G.getD k grZ=gg at*;obtain⟨gr,Ach,cch,D⟩:=gg;dsimp only at d0 d1 hch hpg hDl VPk VCk;have VPk:=qrf VPk;have VCk:=qrf VCk;have HDl:=qrf hDl;have HCHk:=qrf hch.1;have hchl:=hch.2;have HPGk:=qrf hpg;have ha:New wr (wr.alloc (.cells #[.int .i64 gr,.slice Ach D.length cch] 114)):=(qq8 _ _).alloc (ql6 _) _;have BG:=qrv wr 114 #[.int .i64 gr,.slice Ach D.length cch];have b2:=qr0 b ha;obtain⟨z0,z1⟩:=zb6 BG;clear b ha BG hch hpg hDl;go_wp2_with fail
     clear z0 z1 d0 d1;go_loopw [10,71] (fun a i wr=>∃j:Nat,j<=D.length/\i= .int .i64 (j:Int)/\a= .int .i64 (V k j 0)/\New w wr) (fun _ i _=>D.length-(intOf i).toNat)
     case atStart=>exact⟨0,ql7 _,rfl,rfl,b2⟩
     case round=>
      obtain⟨j,hj,rfl,rfl,b⟩:=hrel;clear b2;by_cases hlj:j<D.length
      ·obtain⟨ac,rfl,hbc,e0⟩:=(qsg HCHk.out b).ch1 hlj
       have hxm:=zax chZ hlj;have hpx:=HPGk.out _ hxm;have VPj:=VPk.out j hlj;have VCj:=VCk.out j hlj;clear hbc hxm;generalize D.getD j chZ=x at*;obtain⟨Ax,cx,pl⟩:=x;dsimp only at e0 hpx VPj VCj;have VPj:=qrf VPj;have VCj:=qrf VCj;have HPL:=qrf hpx.1;have hpn:=hpx.2;clear hpx;go_wp2_with fail
       clear e0;go_loopw [10,78] (fun a i wr=>∃q:Nat,q<=pl.length/\i= .int .i64 (q:Int)/\a= .int .i64 (V k j q)/\New w wr) (fun _ i _=>pl.length-(intOf i).toNat)
       case atStart=>exact⟨0,ql7 _,rfl,rfl,b⟩
       case round=>
        clear b;obtain⟨q,hq,rfl,rfl,b⟩:=hrel;by_cases hlq:q<pl.length
        ·obtain⟨ap,rfl,hbp,d0,d1,d2,d3,d4,d5,d6,d7,d8,d9,d10,d11,d12,d13⟩:=(qsg HPL.out b).page14 hlq
         obtain⟨v1,v2,v3,v4⟩:=VPj.out q hlq;have vs:V k j q+(pl.getD q zb1).1<=1073741824:=by omega
         have vs0:0<=V k j q+(pl.getD q zb1).1:=by omega
         have H2:=qrf v2;clear v2 v3 v4 hbp;generalize pl.getD q zb1=p at*;obtain⟨sz,rw,nn,bb,⟨p1,p2,p3,p4,p5⟩,⟨q1,q2,q3,q4,q5⟩⟩:=p;dsimp only at d0 d1 d2 d3 d4 d5 d6 d7 d8 d9 d10 d11 d12 d13 H2 vs vs0;have ha:New wr (wr.alloc (.cells #[.int .i64 sz,.int .i64 rw,.int .i64 nn,.bool bb,.bool p1,.int .i64 p2,.string (zai p3),.int .i64 p4,.int .i64 p5,.bool q1,.int .i64 q2,.string (zai q3),.int .i64 q4,.int .i64 q5] 135)):=(qq8 _ _).alloc (ql6 _) _;have BP:=qrv wr 135 #[.int .i64 sz,.int .i64 rw,.int .i64 nn,.bool bb,.bool p1,.int .i64 p2,.string (zai p3),.int .i64 p4,.int .i64 p5,.bool q1,.int .i64 q2,.string (zai q3),.int .i64 q4,.int .i64 q5];have b2:=qr0 b ha;obtain⟨e0,e1,e2,e3,e4,e5,e6,e7,e8,e9,e10,e11,e12,e13⟩:=zd6 BP;clear b ha BP;have nk: ¬k=G.length:=by omega
         have nkz: ¬(k:Int)=(G.length:Int):=by omega
         go_wp2_with fail
         go_roundw
         case rel=>exact⟨q+1,by omega,by go_num,by rw[H2.out],b2⟩
         case measure=>simp[intOf];omega
        ·obtain rfl:q=pl.length:=by omega
         have hvc:=qrf VCj.out;go_wp2
         go_roundw
         case rel=>exact⟨j+1,by omega,by go_num,by rw[hvc.out],b⟩
         case measure=>simp[intOf];omega
      ·obtain rfl:j=D.length:=by omega
       have hvg:=VGk.out;rw[<-HDl.out] at hvg;have hvg:=qrf hvg;go_wp2
       go_roundw
       case rel=>exact⟨k+1,by omega,by go_num,by rw[hvg.out],b⟩
       case measure=>simp[intOf];omega
    ·obtain rfl:k=G.length:=by omega
     go_wp2
     try rw[qrr]
     go_ret
     exact⟨rfl,b⟩
  ·have hEB:qdn G.length g c p=false:=by unfold qdn;simpa using hE
   rw[hEB,Bool.false_or] at hX;clear HH;cases I with
   |false=>
    obtain rfl:X= -1:=by rw[hX];rfl
    have HE:=qrf hE;have HH:=qrf hHH;have hi:∀g' c':Int,g'=g->c'=c->inB L.length G.length g' c'=false:=by rintro _ _ rfl rfl;exact hI.symm
    have HI:=qrf hi;clear hX hB hI hEB hE hok hHH hPA VZ VP VC VG HDL hi;go_enter Tryz.func69,Tryz.ntmps69
    go_wp2_with fail
    go_step3
    go_wp2_with fail
    refine(HR.out _ b0).mono ?_;rintro e w1 ⟨rfl,b1⟩;have B1:=B0.below b1 B0.lt;have b01:=qr0 b0 b1;clear b0 b1 B0 x0 x1 x2;obtain⟨x0,x1,x2⟩:=zar B1;go_wp2_with fail
    all_goals
     first
      |exact absurd ⟨by assumption,by assumption,by assumption⟩ HE.out
      |(refine(HH.out _ _ _).mono ?_
        rw[HI.out _ _ (by omega) (by omega)];rintro e w2 ⟨rfl,b2⟩;have b02:=qr0 b01 b2;clear b01 b2;go_wp2
        all_goals
         first
          |(try rw[qrr]
            go_ret
            exact⟨rfl,b02⟩)
          |(exfalso;simp_all;done))
   |true=>
    obtain⟨gk,ck,rfl,rfl,hgk,hck⟩:=hB rfl;rw[qpk] at hX;simp only[qmt] at hX;rw[hPA gk hgk ck (by rw[HDL.out gk hgk];exact hck)] at hX;have hHH:=fun(W:World)=>hHH W gk ck
    rw[show inB L.length G.length (gk:Int) (ck:Int)=true from hI.symm] at hHH;have HH:=qrf hHH;have nE: ¬gk=G.length:=by omega
    have nEz: ¬(gk:Int)=(G.length:Int):=by omega
    clear hB hI hEB hE hok hHH hPA;generalize zc8 (G.map grP)=V at*;have HX:=qrf hX;clear hX;go_enter Tryz.func69,Tryz.ntmps69
    go_wp2_with fail
    go_step3
    go_wp2_with fail
    refine(HR.out _ b0).mono ?_;rintro e w1 ⟨rfl,b1⟩;have B1:=B0.below b1 B0.lt;have b01:=qr0 b0 b1;clear b0 b1 B0 x0 x1 x2;obtain⟨x0,x1,x2⟩:=zar B1;go_wp2_with fail
    refine(HH.out _).mono ?_;rintro e w2 ⟨rfl,b2⟩;have B2:=B1.below b2 B1.lt;have bI:=qr0 b01 b2;clear b01 b2 B1 x0 x1 x2 HR HH;obtain⟨x0,x1,x2⟩:=zar B2;clear B2;obtain⟨ad0,rfl,hb0,d0,d1⟩:=(qsg HG.out bI).gr2 hgk;have hgm:=zax grZ hgk;have hch:=HCH.out _ hgm;have hDl:=HDL.out gk hgk;obtain⟨gg,hgg⟩:∃gg,G.getD gk grZ=gg:=⟨_,rfl⟩;rw[hgg] at d0 d1 hch hDl;have HGG:=qrf hgg;clear hgg hgm hb0;obtain⟨gr,Ach,cch,D⟩:=gg;dsimp only at d0 d1 hch hDl;have hckD:ck<D.length:=by omega
    obtain⟨ac0,rfl,hbc,e0⟩:=(qsg hch.1 bI).ch1 hckD;obtain⟨xx,hxx⟩:∃xx,D.getD ck chZ=xx:=⟨_,rfl⟩;rw[hxx] at e0;have HXX:=qrf hxx;clear hxx hbc hch;obtain⟨Ax,cx,pl⟩:=xx;dsimp only at e0;have hX:=HX.out;rw[HGG.out] at hX;dsimp only at hX;rw[HXX.out] at hX;dsimp only at hX;clear HX;by_cases hp0:p<0
    ·obtain rfl:X= -1:=by rw[hX,if_neg];unfold pgB;simp;omega
     clear hX;go_wp2
     try rw[qrr]
     go_ret
     exact⟨rfl,bI⟩
    by_cases hp1:(pl.length:Int)<=p
    ·obtain rfl:X= -1:=by rw[hX,if_neg];unfold pgB;simp;omega
     clear hX;go_wp2
     try rw[qrr]
     go_ret
     exact⟨rfl,bI⟩
    ·obtain⟨pk,rfl⟩:∃pk:Nat,p=(pk:Int):=⟨p.toNat,by omega⟩
     obtain rfl:X=V gk ck pk:=by rw[hX,if_pos (by unfold pgB;simp;omega)];rfl
     have PKF:=qrf (show∀k j:Nat,k=gk->j=ck->pk<((G.getD k grZ).2.2.2.getD j chZ).2.2.length by rintro _ _ rfl rfl;rw[HGG.out];dsimp only;rw[HXX.out];dsimp only;omega)
     clear hX HGG HXX;go_wp2_with fail
     go_step3
     go_wp2_with fail
     clear d0 d1 e0 hDl hckD hp0 hp1 nE nEz;try generalize((gk:Int)==(G.length:Int))=z1
     try generalize(decide ((pk:Int)<0))=z2
     try generalize(decide (pl.length<=pk))=z3
     try generalize(decide ((pl.length:Int)<=(pk:Int)))=z4
     clear x0 x1 x2;go_loopw [10,63] (fun a i wr=>∃k:Nat,k<=gk/\i= .int .i64 (k:Int)/\a= .int .i64 (V k 0 0)/\New w wr) (fun _ i _=>G.length-(intOf i).toNat)
     case atStart=>exact⟨0,ql7 _,rfl,by rw[VZ.out],bI⟩
     case round=>
      obtain⟨k,hk,rfl,rfl,b⟩:=hrel;clear bI VZ;by_cases hlt:k<G.length
      ·obtain⟨ad,hAe,hb,d0,d1⟩:=(qsg HG.out b).gr2 hlt
       obtain rfl:=qlj hAe;have hgm:=zax grZ hlt;have hch:=HCH.out _ hgm;have hpg:=HPG.out _ hgm;have hDl:=HDL.out k hlt;have VPk:=VP.out k hlt;have VCk:=VC.out k hlt;have VGk:=qrf (VG.out k hlt);have PKk:=PKF.out k;clear hb hgm;generalize G.getD k grZ=gg at*;obtain⟨gr,Ach,cch,D⟩:=gg;dsimp only at d0 d1 hch hpg hDl VPk VCk PKk;have PKk:=qrf PKk;have VPk:=qrf VPk;have VCk:=qrf VCk;have HDl:=qrf hDl;have HCHk:=qrf hch.1;have hchl:=hch.2;have HPGk:=qrf hpg;have ha:New wr (wr.alloc (.cells #[.int .i64 gr,.slice Ach D.length cch] 114)):=(qq8 _ _).alloc (ql6 _) _;have BG:=qrv wr 114 #[.int .i64 gr,.slice Ach D.length cch];have b2:=qr0 b ha;obtain⟨z0,z1⟩:=zb6 BG;clear b ha BG hch hpg hDl;go_wp2_with fail
       clear z0 z1 d0 d1;go_loopw [10,71] (fun a i wr=>∃j:Nat,j<=D.length/\i= .int .i64 (j:Int)/\a= .int .i64 (V k j 0)/\Hid (k<gk\/(k=gk/\j<=ck))/\New w wr) (fun _ i _=>D.length-(intOf i).toNat)
       case atStart=>exact⟨0,ql7 _,rfl,rfl,qrf (by omega),b2⟩
       case round=>
        obtain⟨j,hj,rfl,rfl,HIN2,b⟩:=hrel;clear b2;by_cases hlj:j<D.length
        ·obtain⟨ac,rfl,hbc,e0⟩:=(qsg HCHk.out b).ch1 hlj
         have hxm:=zax chZ hlj;have hpx:=HPGk.out _ hxm;have VPj:=VPk.out j hlj;have VCj:=VCk.out j hlj;have PKj:=PKk.out j;clear hbc hxm;generalize D.getD j chZ=x at*;obtain⟨Ax,cx,pl⟩:=x;dsimp only at e0 hpx VPj VCj PKj;have HPK:=qrf PKj;have VPj:=qrf VPj;have VCj:=qrf VCj;have HPL:=qrf hpx.1;have hpn:=hpx.2;clear hpx;go_wp2_with fail
         clear e0;go_loopw [10,78] (fun a i wr=>∃q:Nat,q<=pl.length/\i= .int .i64 (q:Int)/\a= .int .i64 (V k j q)/\Hid (k<gk\/(k=gk/\(j<ck\/(j=ck/\q<=pk))))/\New w wr) (fun _ i _=>pl.length-(intOf i).toNat)
         case atStart=>exact⟨0,ql7 _,rfl,rfl,qrf (by have:=HIN2.out;omega),b⟩
         case round=>
          clear b;obtain⟨q,hq,rfl,rfl,HIN3,b⟩:=hrel;by_cases hlq:q<pl.length
          ·obtain⟨ap,rfl,hbp,d0,d1,d2,d3,d4,d5,d6,d7,d8,d9,d10,d11,d12,d13⟩:=(qsg HPL.out b).page14 hlq
           obtain⟨v1,v2,v3,v4⟩:=VPj.out q hlq;have vs:V k j q+(pl.getD q zb1).1<=1073741824:=by omega
           have vs0:0<=V k j q+(pl.getD q zb1).1:=by omega
           have H2:=qrf v2;clear v2 v3 v4 hbp;generalize pl.getD q zb1=p at*;obtain⟨sz,rw,nn,bb,⟨p1,p2,p3,p4,p5⟩,⟨q1,q2,q3,q4,q5⟩⟩:=p;dsimp only at d0 d1 d2 d3 d4 d5 d6 d7 d8 d9 d10 d11 d12 d13 H2 vs vs0;have ha:New wr (wr.alloc (.cells #[.int .i64 sz,.int .i64 rw,.int .i64 nn,.bool bb,.bool p1,.int .i64 p2,.string (zai p3),.int .i64 p4,.int .i64 p5,.bool q1,.int .i64 q2,.string (zai q3),.int .i64 q4,.int .i64 q5] 135)):=(qq8 _ _).alloc (ql6 _) _;have BP:=qrv wr 135 #[.int .i64 sz,.int .i64 rw,.int .i64 nn,.bool bb,.bool p1,.int .i64 p2,.string (zai p3),.int .i64 p4,.int .i64 p5,.bool q1,.int .i64 q2,.string (zai q3),.int .i64 q4,.int .i64 q5];have b2:=qr0 b ha;obtain⟨e0,e1,e2,e3,e4,e5,e6,e7,e8,e9,e10,e11,e12,e13⟩:=zd6 BP;clear b ha BP;by_cases hit:k=gk/\j=ck/\q=pk
           ·obtain⟨rfl,rfl,rfl⟩:=hit
            clear VPj VCj VPk VCk VGk VP VC VG HDL H2 PKk HPK PKF;generalize V k j q=vv at*;go_wp2_with fail
            try rw[qrr]
            go_ret
            exact⟨rfl,b2⟩
           have HN:=qrf (show k<gk\/(k=gk/\(j<ck\/(j=ck/\q+1<=pk))) by have:=HIN3.out;omega);by_cases n1:k=gk
           ·have t1:((k:Int)==(gk:Int))=true:=by simp[n1]
            have N1:=qrf n1;by_cases n2:j=ck
            ·have t2:((j:Int)==(ck:Int))=true:=by simp[n2]
             have N2:=qrf n2;have n3: ¬q=pk:=fun e=>hit ⟨n1,n2,e⟩
             have n3z: ¬(q:Int)=(pk:Int):=by omega
             clear n1 n2 hit;go_wp2_with fail
             go_roundw
             case rel=>exact⟨q+1,by omega,by go_num,by rw[H2.out],HN,b2⟩
             case measure=>simp[intOf];omega
            ·have n2z: ¬(j:Int)=(ck:Int):=by omega
             clear n1 hit;go_wp2_with fail
             go_roundw
             case rel=>exact⟨q+1,by omega,by go_num,by rw[H2.out],HN,b2⟩
             case measure=>simp[intOf];omega
           ·have n1z: ¬(k:Int)=(gk:Int):=by omega
            clear hit;go_wp2_with fail
            go_roundw
            case rel=>exact⟨q+1,by omega,by go_num,by rw[H2.out],HN,b2⟩
            case measure=>simp[intOf];omega
          ·obtain rfl:q=pl.length:=by omega
           have hvc:=qrf VCj.out;have HN:=qrf (show k<gk\/(k=gk/\j+1<=ck) by
            have h1:=HIN3.out;have h2:=HPK.out;rcases h1 with h1|⟨h1,h3|⟨h3,h4⟩⟩
            ·omega
            ·omega
            ·have:=h2 h1 h3
             omega)
           go_wp2
           go_roundw
           case rel=>exact⟨j+1,by omega,by go_num,by rw[hvc.out],HN,b⟩
           case measure=>simp[intOf];omega
        ·obtain rfl:j=D.length:=by omega
         have hvg:=VGk.out;rw[<-HDl.out] at hvg;have hvg:=qrf hvg;go_wp2
         go_roundw
         case rel=>exact⟨k+1,by have:=HIN2.out;have:=HDl.out;omega,by go_num,by rw[hvg.out],b⟩
         case measure=>simp[intOf];omega
      ·exfalso
       omega
end Go.Proofs.Y
