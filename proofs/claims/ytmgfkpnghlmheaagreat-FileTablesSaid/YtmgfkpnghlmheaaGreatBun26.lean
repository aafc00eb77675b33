/- Merged. -/
import Derived.Test.YtmgfkpnghlmheaaGreatBun25
set_option maxHeartbeats 4000000
namespace Go.Proofs.Y
open Go Go.RowKit Go.Hm
def zva(G:List za4)(k:Nat):Int:=((G.take k).map zcc).sum
def zrh(g:za4)(j:Nat):Int:=((g.2.take j).map zch).sum
def zcv(G:List za4)(k j q:Nat):Int:=zva G k+zrh (G.getD k zak) j+zch ((zav G k j).take q)
def z6v(ng:Nat)(g c p:Int):Bool:=decide (g=(ng:Int)/\c=0/\p=0)
def pgB(n:Nat)(p:Int):Bool:=decide (0<=p/\p<(n:Int))
noncomputable def zeb(F:FootS)(g c p:Int):Int:=
 if zdl F&&(z6v F.groups.length g c p||(inB F.cols.length F.groups.length g c&&pgB (zav F.groups g.toNat c.toNat).length p)) then zcv F.groups g.toNat c.toNat p.toNat else-1
theorem zxl(G:List za4):zcv G 0 0 0=0:=rfl
theorem zj8{F:FootS}(h:zbj F){k j q:Nat}(hk:k<F.groups.length)(hj:j<F.cols.length)(hq:q<(zav F.groups k j).length):
 0<=zcv F.groups k j q/\zcv F.groups k j (q+1)=zcv F.groups k j q+((zav F.groups k j).getD q zbp).1/\zcv F.groups k j (q+1)<=1073741824/\1<=((zav F.groups k j).getD q zbp).1:=by
 obtain⟨hc,hl⟩:=zl2 h hk hj;have hpos:=fun p (hp:p∈zav F.groups k j)=>(pageB_most.1 (hc.1 p hp)).1.2.2.1
 have h1:=zby (fun p:zay=>p.1) (zav F.groups k j) q zbp hq;have h2:=zet (fun p:zay=>p.1) (zav F.groups k j) (q+1) (fun p hp=>by have:=hpos p hp;omega);have h3:=zfn (fun p:zay=>p.1) ((zav F.groups k j).take q) (fun p hp=>by have:=hpos p (List.mem_of_mem_take hp);omega);have h4:=zu9 h (c:=j+1) hk;have h5:=zby zch (F.groups.getD k zak).2 j [] (by omega);have h6:=zfn zcc (F.groups.take k) (fun g hg=>(h.2.1 g (List.mem_of_mem_take hg)).nonneg);have h7:=zfn zch ((F.groups.getD k zak).2.take j) (fun l hl=>(zco h hk).sizes l (List.mem_of_mem_take hl));have h8:=hpos _ (zan zbp hq);unfold zcv zva zrh;unfold zav at*;unfold zch at*;refine⟨by omega,by omega,by omega,h8⟩
theorem zvb{F:FootS}(h:zbj F){k j:Nat}(hk:k<F.groups.length)(hj:j<F.cols.length):zcv F.groups k j (zav F.groups k j).length=zcv F.groups k (j+1) 0:=by obtain⟨hc,hl⟩:=zl2 h hk hj;have h5:=zby zch (F.groups.getD k zak).2 j [] (by omega);unfold zcv zrh;rw[List.take_length,h5];unfold zav;simp only[List.take_zero];have:zch []=0:=rfl;omega
theorem zvc{F:FootS}(h:zbj F){k:Nat}(hk:k<F.groups.length):zcv F.groups k F.cols.length 0=zcv F.groups (k+1) 0 0:=by have hl:=(zco h hk).2.1;have h5:=zby zcc F.groups k zak hk;unfold zcv zva zrh;rw[h5,<-hl,List.take_length];simp only[List.take_zero,List.map_nil,List.sum_nil];have:zch []=0:=rfl;unfold zcc;omega
set_option maxRecDepth 100000 in
theorem zvd{w:World}{Ac:Option Addr}{cc:Nat}{L:List za2}{r:Int}{Ag:Option Addr}{cg:Nat}{G:List GrD}(h:FootIn w Ac cc L Ag G)(hp:∀g∈G,∀x∈g.2.2.2,∀p∈x.2.2,zdk p.2.2){g c p:Int}:
 Calls Tryz.prog 41 #[zh9 Ac cc L r Ag cg G,.int .i64 g,.int .i64 c,.int .i64 p] w (zap (.int .i64 (zeb (za5 L r G) g c p)) w):=by
 have HR:=fun(W:World) (hW:New w W)=>zjb (r:=r) (cc:=cc) (cg:=cg) (h.later hW) hp
 have HH:=Hz (fun(W:World)=>zmn (w:=W) (Ac:=Ac) (Ag:=Ag) (nl:=L.length) (cc:=cc) (ng:=G.length) (cg:=cg) (r:=r) (g:=g) (c:=c));have hX:zeb (za5 L r G) g c p=if zdl (za5 L r G)&&(z6v G.length g c p||(inB L.length G.length g c&&pgB (zav (G.map grP) g.toNat c.toNat).length p)) then zcv (G.map grP) g.toNat c.toNat p.toNat else-1:=by unfold zeb za5;simp only[List.length_map]
 have hF:zdl (za5 L r G)=true->zbj (za5 L r G):=fun e=>by unfold zdl at e;simpa using e
 have B0:=Blk.new w 38 #[.slice Ac L.length cc,.int .i64 r,.slice Ag G.length cg];have b0:New w (w.alloc (.cells #[.slice Ac L.length cc,.int .i64 r,.slice Ag G.length cg] 38)):=(Below.refl _ _).alloc (Nat.le_refl _) _;obtain⟨x0,x1,x2⟩:=zaf B0;have HG:=Hz h.groups;have HCH:=Hz h.chunks;have HPG:=Hz h.pages;have hfew2:=h.few2;have hB:= @z6u L.length G.length g c;clear h hp;have hI:inB L.length G.length g c=decide (0<=g/\g<(G.length:Int)/\0<=c/\c<(L.length:Int)):=rfl;generalize inB L.length G.length g c=I at*;show Calls Tryz.prog 41 #[.agg #[.slice Ac L.length cc,.int .i64 r,.slice Ag G.length cg],.int .i64 g,.int .i64 c,.int .i64 p] w (zap (.int .i64 (zeb (za5 L r G) g c p)) w);generalize zeb (za5 L r G) g c p=X at*;generalize zdl (za5 L r G)=M at*;have HR:Hid (∀W,New w W->Calls Tryz.prog 55 #[.agg #[.slice Ac L.length cc,.int .i64 r,.slice Ag G.length cg]] W (zap (.bool M) W)):=Hz HR;cases M with
 |false=>
  obtain rfl:X= -1:=by rw[hX];rfl
  clear hX hF hB hI;go_enter Tryz.func41,Tryz.ntmps41
  go_wp2_with fail
  go_step3
  go_wp2_with fail
  refine(HR.out _ b0).mono ?_;rintro e w1 ⟨rfl,b1⟩;have b01:=New.trans b0 b1;clear b0 b1;go_wp2
  try rw[Exit.noGoto_ret]
  go_ret
  exact⟨rfl,b01⟩
 |true=>
  have hok:=hF rfl;clear hF;rw[Bool.true_and] at hX;have hHH:∀(W:World) (g' c':Int),Calls Tryz.prog 83 #[.agg #[.slice Ac L.length cc,.int .i64 r,.slice Ag G.length cg],.int .i64 g',.int .i64 c'] W (zap (.bool (inB L.length G.length g' c')) W):=fun W g' c'=>zmn
  have HDL:=Hz (fun(k:Nat) (hk:k<G.length)=>show(G.getD k grZ).2.2.2.length=L.length by have:=(zco hok (k:=k) (by unfold za5;simpa using hk)).2.1;unfold za5 at this;dsimp only at this;rw[zba grP G grZ zak hk] at this;unfold grP at this;simpa using this)
  have hPA:=fun(k:Nat) (hk:k<G.length) (j:Nat) (hj:j<(G.getD k grZ).2.2.2.length)=>show zav (G.map grP) k j=((G.getD k grZ).2.2.2.getD j chZ).2.2 by unfold zav;rw[zba grP G grZ zak hk];exact zba (fun x:ChD=>x.2.2) (G.getD k grZ).2.2.2 chZ [] hj
  have VZ:=Hz (zxl (G.map grP));have VP:=Hz (fun(k:Nat) (hk:k<G.length) (j:Nat) (hj:j<(G.getD k grZ).2.2.2.length) (q:Nat) (hq:q<((G.getD k grZ).2.2.2.getD j chZ).2.2.length)=>
   show 0<=zcv (G.map grP) k j q/\zcv (G.map grP) k j (q+1)=zcv (G.map grP) k j q+(((G.getD k grZ).2.2.2.getD j chZ).2.2.getD q zbp).1/\zcv (G.map grP) k j (q+1)<=1073741824/\1<=(((G.getD k grZ).2.2.2.getD j chZ).2.2.getD q zbp).1 by
   have e:=hPA k hk j hj;have:=zj8 hok (k:=k) (j:=j) (q:=q) (by unfold za5;simpa using hk) (by unfold za5;dsimp only;rw[<-HDL.out k hk];exact hj) (by unfold za5;dsimp only;rw[e];exact hq);unfold za5 at this;dsimp only at this;rw[e] at this;exact this)
  have VC:=Hz (fun(k:Nat) (hk:k<G.length) (j:Nat) (hj:j<(G.getD k grZ).2.2.2.length)=>show zcv (G.map grP) k j ((G.getD k grZ).2.2.2.getD j chZ).2.2.length=zcv (G.map grP) k (j+1) 0 by have e:=hPA k hk j hj;have:=zvb hok (k:=k) (j:=j) (by unfold za5;simpa using hk) (by unfold za5;dsimp only;rw[<-HDL.out k hk];exact hj);unfold za5 at this;dsimp only at this;rw[e] at this;exact this)
  have VG:=Hz (fun(k:Nat) (hk:k<G.length)=>show zcv (G.map grP) k L.length 0=zcv (G.map grP) (k+1) 0 0 from
   zvc hok (k:=k) (by unfold za5;simpa using hk))
  by_cases hE:g=(G.length:Int)/\c=0/\p=0
  ·obtain⟨rfl,rfl,rfl⟩:=hE
   have hEB:z6v G.length (G.length:Int) 0 0=true:=by unfold z6v;simp
   rw[hEB,Bool.true_or,if_pos rfl] at hX;simp only[Int.toNat_natCast,Int.toNat_zero] at hX;generalize zcv (G.map grP)=V at*;subst hX;clear hB hI hEB hok HH hHH hPA;go_enter Tryz.func41,Tryz.ntmps41
   go_wp2_with fail
   go_step3
   go_wp2_with fail
   refine(HR.out _ b0).mono ?_;rintro e w1 ⟨rfl,b1⟩;have B1:=B0.below b1 B0.lt;have bE:=New.trans b0 b1;clear b0 b1 B0 x0 x1 x2 HR;obtain⟨x0,x1,x2⟩:=zaf B1;clear B1;go_wp2_with fail
   go_step3
   go_wp2_with fail
   clear x0 x1 x2;go_loopw [10,63] (fun a i wr=>∃k:Nat,k<=G.length/\i= .int .i64 (k:Int)/\a= .int .i64 (V k 0 0)/\New w wr) (fun _ i _=>G.length-(intOf i).toNat)
   case atStart=>exact⟨0,Nat.zero_le _,rfl,by rw[VZ.out],bE⟩
   case round=>
    obtain⟨k,hk,rfl,rfl,b⟩:=hrel;clear bE VZ;by_cases hlt:k<G.length
    ·obtain⟨ad,rfl,hb,d0,d1⟩:=(Reads.later HG.out b).gr2 hlt
     have hgm:=zan grZ hlt;have hch:=HCH.out _ hgm;have hpg:=HPG.out _ hgm;have hDl:=HDL.out k hlt;have VPk:=VP.out k hlt;have VCk:=VC.out k hlt;have VGk:=Hz (VG.out k hlt);clear hb hgm;generalize G.getD k grZ=gg at*;obtain⟨gr,Ach,cch,D⟩:=gg;dsimp only at d0 d1 hch hpg hDl VPk VCk;have VPk:=Hz VPk;have VCk:=Hz VCk;have HDl:=Hz hDl;have HCHk:=Hz hch.1;have hchl:=hch.2;have HPGk:=Hz hpg;have ha:New wr (wr.alloc (.cells #[.int .i64 gr,.slice Ach D.length cch] 56)):=(Below.refl _ _).alloc (Nat.le_refl _) _;have BG:=Blk.new wr 56 #[.int .i64 gr,.slice Ach D.length cch];have b2:=New.trans b ha;obtain⟨z0,z1⟩:=zbe BG;clear b ha BG hch hpg hDl;go_wp2_with fail
     clear z0 z1 d0 d1;go_loopw [10,71] (fun a i wr=>∃j:Nat,j<=D.length/\i= .int .i64 (j:Int)/\a= .int .i64 (V k j 0)/\New w wr) (fun _ i _=>D.length-(intOf i).toNat)
     case atStart=>exact⟨0,Nat.zero_le _,rfl,rfl,b2⟩
     case round=>
      obtain⟨j,hj,rfl,rfl,b⟩:=hrel;clear b2;by_cases hlj:j<D.length
      ·obtain⟨ac,rfl,hbc,e0⟩:=(Reads.later HCHk.out b).ch1 hlj
       have hxm:=zan chZ hlj;have hpx:=HPGk.out _ hxm;have VPj:=VPk.out j hlj;have VCj:=VCk.out j hlj;clear hbc hxm;generalize D.getD j chZ=x at*;obtain⟨Ax,cx,pl⟩:=x;dsimp only at e0 hpx VPj VCj;have VPj:=Hz VPj;have VCj:=Hz VCj;have HPL:=Hz hpx.1;have hpn:=hpx.2;clear hpx;go_wp2_with fail
       clear e0;go_loopw [10,78] (fun a i wr=>∃q:Nat,q<=pl.length/\i= .int .i64 (q:Int)/\a= .int .i64 (V k j q)/\New w wr) (fun _ i _=>pl.length-(intOf i).toNat)
       case atStart=>exact⟨0,Nat.zero_le _,rfl,rfl,b⟩
       case round=>
        clear b;obtain⟨q,hq,rfl,rfl,b⟩:=hrel;by_cases hlq:q<pl.length
        ·obtain⟨ap,rfl,hbp,d0,d1,d2,d3,d4,d5,d6,d7,d8,d9,d10,d11,d12,d13⟩:=(Reads.later HPL.out b).page14 hlq
         obtain⟨v1,v2,v3,v4⟩:=VPj.out q hlq;have vs:V k j q+(pl.getD q zbp).1<=1073741824:=by omega
         have vs0:0<=V k j q+(pl.getD q zbp).1:=by omega
         have H2:=Hz v2;clear v2 v3 v4 hbp;generalize pl.getD q zbp=p at*;obtain⟨sz,rw,nn,bb,⟨p1,p2,p3,p4,p5⟩,⟨q1,q2,q3,q4,q5⟩⟩:=p;dsimp only at d0 d1 d2 d3 d4 d5 d6 d7 d8 d9 d10 d11 d12 d13 H2 vs vs0;have ha:New wr (wr.alloc (.cells #[.int .i64 sz,.int .i64 rw,.int .i64 nn,.bool bb,.bool p1,.int .i64 p2,.string (zad p3),.int .i64 p4,.int .i64 p5,.bool q1,.int .i64 q2,.string (zad q3),.int .i64 q4,.int .i64 q5] 65)):=(Below.refl _ _).alloc (Nat.le_refl _) _;have BP:=Blk.new wr 65 #[.int .i64 sz,.int .i64 rw,.int .i64 nn,.bool bb,.bool p1,.int .i64 p2,.string (zad p3),.int .i64 p4,.int .i64 p5,.bool q1,.int .i64 q2,.string (zad q3),.int .i64 q4,.int .i64 q5];have b2:=New.trans b ha;obtain⟨e0,e1,e2,e3,e4,e5,e6,e7,e8,e9,e10,e11,e12,e13⟩:=zci BP;clear b ha BP;have nk: ¬k=G.length:=by omega
         have nkz: ¬(k:Int)=(G.length:Int):=by omega
         go_wp2_with fail
         go_roundw
         case rel=>exact⟨q+1,by omega,by go_num,by rw[H2.out],b2⟩
         case measure=>simp[intOf];omega
        ·obtain rfl:q=pl.length:=by omega
         have hvc:=Hz VCj.out;go_wp2
         go_roundw
         case rel=>exact⟨j+1,by omega,by go_num,by rw[hvc.out],b⟩
         case measure=>simp[intOf];omega
      ·obtain rfl:j=D.length:=by omega
       have hvg:=VGk.out;rw[<-HDl.out] at hvg;have hvg:=Hz hvg;go_wp2
       go_roundw
       case rel=>exact⟨k+1,by omega,by go_num,by rw[hvg.out],b⟩
       case measure=>simp[intOf];omega
    ·obtain rfl:k=G.length:=by omega
     go_wp2
     try rw[Exit.noGoto_ret]
     go_ret
     exact⟨rfl,b⟩
  ·have hEB:z6v G.length g c p=false:=by unfold z6v;simpa using hE
   rw[hEB,Bool.false_or] at hX;clear HH;cases I with
   |false=>
    obtain rfl:X= -1:=by rw[hX];rfl
    have HE:=Hz hE;have HH:=Hz hHH;have hi:∀g' c':Int,g'=g->c'=c->inB L.length G.length g' c'=false:=by rintro _ _ rfl rfl;exact hI.symm
    have HI:=Hz hi;clear hX hB hI hEB hE hok hHH hPA VZ VP VC VG HDL hi;go_enter Tryz.func41,Tryz.ntmps41
    go_wp2_with fail
    go_step3
    go_wp2_with fail
    refine(HR.out _ b0).mono ?_;rintro e w1 ⟨rfl,b1⟩;have B1:=B0.below b1 B0.lt;have b01:=New.trans b0 b1;clear b0 b1 B0 x0 x1 x2;obtain⟨x0,x1,x2⟩:=zaf B1;go_wp2_with fail
    all_goals
     first
      |exact absurd ⟨by assumption,by assumption,by assumption⟩ HE.out
      |(refine(HH.out _ _ _).mono ?_
        rw[HI.out _ _ (by omega) (by omega)];rintro e w2 ⟨rfl,b2⟩;have b02:=New.trans b01 b2;clear b01 b2;go_wp2
        all_goals
         first
          |(try rw[Exit.noGoto_ret]
            go_ret
            exact⟨rfl,b02⟩)
          |(exfalso;simp_all;done))
   |true=>
    obtain⟨gk,ck,rfl,rfl,hgk,hck⟩:=hB rfl;rw[Bool.true_and] at hX;simp only[Int.toNat_natCast] at hX;rw[hPA gk hgk ck (by rw[HDL.out gk hgk];exact hck)] at hX;have hHH:=fun(W:World)=>hHH W gk ck
    rw[show inB L.length G.length (gk:Int) (ck:Int)=true from hI.symm] at hHH;have HH:=Hz hHH;have nE: ¬gk=G.length:=by omega
    have nEz: ¬(gk:Int)=(G.length:Int):=by omega
    clear hB hI hEB hE hok hHH hPA;generalize zcv (G.map grP)=V at*;have HX:=Hz hX;clear hX;go_enter Tryz.func41,Tryz.ntmps41
    go_wp2_with fail
    go_step3
    go_wp2_with fail
    refine(HR.out _ b0).mono ?_;rintro e w1 ⟨rfl,b1⟩;have B1:=B0.below b1 B0.lt;have b01:=New.trans b0 b1;clear b0 b1 B0 x0 x1 x2;obtain⟨x0,x1,x2⟩:=zaf B1;go_wp2_with fail
    refine(HH.out _).mono ?_;rintro e w2 ⟨rfl,b2⟩;have B2:=B1.below b2 B1.lt;have bI:=New.trans b01 b2;clear b01 b2 B1 x0 x1 x2 HR HH;obtain⟨x0,x1,x2⟩:=zaf B2;clear B2;obtain⟨ad0,rfl,hb0,d0,d1⟩:=(Reads.later HG.out bI).gr2 hgk;have hgm:=zan grZ hgk;have hch:=HCH.out _ hgm;have hDl:=HDL.out gk hgk;obtain⟨gg,hgg⟩:∃gg,G.getD gk grZ=gg:=⟨_,rfl⟩;rw[hgg] at d0 d1 hch hDl;have HGG:=Hz hgg;clear hgg hgm hb0;obtain⟨gr,Ach,cch,D⟩:=gg;dsimp only at d0 d1 hch hDl;have hckD:ck<D.length:=by omega
    obtain⟨ac0,rfl,hbc,e0⟩:=(Reads.later hch.1 bI).ch1 hckD;obtain⟨xx,hxx⟩:∃xx,D.getD ck chZ=xx:=⟨_,rfl⟩;rw[hxx] at e0;have HXX:=Hz hxx;clear hxx hbc hch;obtain⟨Ax,cx,pl⟩:=xx;dsimp only at e0;have hX:=HX.out;rw[HGG.out] at hX;dsimp only at hX;rw[HXX.out] at hX;dsimp only at hX;clear HX;by_cases hp0:p<0
    ·obtain rfl:X= -1:=by rw[hX,if_neg];unfold pgB;simp;omega
     clear hX;go_wp2
     try rw[Exit.noGoto_ret]
     go_ret
     exact⟨rfl,bI⟩
    by_cases hp1:(pl.length:Int)<=p
    ·obtain rfl:X= -1:=by rw[hX,if_neg];unfold pgB;simp;omega
     clear hX;go_wp2
     try rw[Exit.noGoto_ret]
     go_ret
     exact⟨rfl,bI⟩
    ·obtain⟨pk,rfl⟩:∃pk:Nat,p=(pk:Int):=⟨p.toNat,by omega⟩
     obtain rfl:X=V gk ck pk:=by rw[hX,if_pos (by unfold pgB;simp;omega)];rfl
     have PKF:=Hz (show∀k j:Nat,k=gk->j=ck->pk<((G.getD k grZ).2.2.2.getD j chZ).2.2.length by rintro _ _ rfl rfl;rw[HGG.out];dsimp only;rw[HXX.out];dsimp only;omega)
     clear hX HGG HXX;go_wp2_with fail
     go_step3
     go_wp2_with fail
     clear d0 d1 e0 hDl hckD hp0 hp1 nE nEz;try generalize((gk:Int)==(G.length:Int))=z1
     try generalize(decide ((pk:Int)<0))=z2
     try generalize(decide (pl.length<=pk))=z3
     try generalize(decide ((pl.length:Int)<=(pk:Int)))=z4
     clear x0 x1 x2;go_loopw [10,63] (fun a i wr=>∃k:Nat,k<=gk/\i= .int .i64 (k:Int)/\a= .int .i64 (V k 0 0)/\New w wr) (fun _ i _=>G.length-(intOf i).toNat)
     case atStart=>exact⟨0,Nat.zero_le _,rfl,by rw[VZ.out],bI⟩
     case round=>
      obtain⟨k,hk,rfl,rfl,b⟩:=hrel;clear bI VZ;by_cases hlt:k<G.length
      ·obtain⟨ad,hAe,hb,d0,d1⟩:=(Reads.later HG.out b).gr2 hlt
       obtain rfl:=Option.some.inj hAe;have hgm:=zan grZ hlt;have hch:=HCH.out _ hgm;have hpg:=HPG.out _ hgm;have hDl:=HDL.out k hlt;have VPk:=VP.out k hlt;have VCk:=VC.out k hlt;have VGk:=Hz (VG.out k hlt);have PKk:=PKF.out k;clear hb hgm;generalize G.getD k grZ=gg at*;obtain⟨gr,Ach,cch,D⟩:=gg;dsimp only at d0 d1 hch hpg hDl VPk VCk PKk;have PKk:=Hz PKk;have VPk:=Hz VPk;have VCk:=Hz VCk;have HDl:=Hz hDl;have HCHk:=Hz hch.1;have hchl:=hch.2;have HPGk:=Hz hpg;have ha:New wr (wr.alloc (.cells #[.int .i64 gr,.slice Ach D.length cch] 56)):=(Below.refl _ _).alloc (Nat.le_refl _) _;have BG:=Blk.new wr 56 #[.int .i64 gr,.slice Ach D.length cch];have b2:=New.trans b ha;obtain⟨z0,z1⟩:=zbe BG;clear b ha BG hch hpg hDl;go_wp2_with fail
       clear z0 z1 d0 d1;go_loopw [10,71] (fun a i wr=>∃j:Nat,j<=D.length/\i= .int .i64 (j:Int)/\a= .int .i64 (V k j 0)/\Hid (k<gk\/(k=gk/\j<=ck))/\New w wr) (fun _ i _=>D.length-(intOf i).toNat)
       case atStart=>exact⟨0,Nat.zero_le _,rfl,rfl,Hz (by omega),b2⟩
       case round=>
        obtain⟨j,hj,rfl,rfl,HIN2,b⟩:=hrel;clear b2;by_cases hlj:j<D.length
        ·obtain⟨ac,rfl,hbc,e0⟩:=(Reads.later HCHk.out b).ch1 hlj
         have hxm:=zan chZ hlj;have hpx:=HPGk.out _ hxm;have VPj:=VPk.out j hlj;have VCj:=VCk.out j hlj;have PKj:=PKk.out j;clear hbc hxm;generalize D.getD j chZ=x at*;obtain⟨Ax,cx,pl⟩:=x;dsimp only at e0 hpx VPj VCj PKj;have HPK:=Hz PKj;have VPj:=Hz VPj;have VCj:=Hz VCj;have HPL:=Hz hpx.1;have hpn:=hpx.2;clear hpx;go_wp2_with fail
         clear e0;go_loopw [10,78] (fun a i wr=>∃q:Nat,q<=pl.length/\i= .int .i64 (q:Int)/\a= .int .i64 (V k j q)/\Hid (k<gk\/(k=gk/\(j<ck\/(j=ck/\q<=pk))))/\New w wr) (fun _ i _=>pl.length-(intOf i).toNat)
         case atStart=>exact⟨0,Nat.zero_le _,rfl,rfl,Hz (by have:=HIN2.out;omega),b⟩
         case round=>
          clear b;obtain⟨q,hq,rfl,rfl,HIN3,b⟩:=hrel;by_cases hlq:q<pl.length
          ·obtain⟨ap,rfl,hbp,d0,d1,d2,d3,d4,d5,d6,d7,d8,d9,d10,d11,d12,d13⟩:=(Reads.later HPL.out b).page14 hlq
           obtain⟨v1,v2,v3,v4⟩:=VPj.out q hlq;have vs:V k j q+(pl.getD q zbp).1<=1073741824:=by omega
           have vs0:0<=V k j q+(pl.getD q zbp).1:=by omega
           have H2:=Hz v2;clear v2 v3 v4 hbp;generalize pl.getD q zbp=p at*;obtain⟨sz,rw,nn,bb,⟨p1,p2,p3,p4,p5⟩,⟨q1,q2,q3,q4,q5⟩⟩:=p;dsimp only at d0 d1 d2 d3 d4 d5 d6 d7 d8 d9 d10 d11 d12 d13 H2 vs vs0;have ha:New wr (wr.alloc (.cells #[.int .i64 sz,.int .i64 rw,.int .i64 nn,.bool bb,.bool p1,.int .i64 p2,.string (zad p3),.int .i64 p4,.int .i64 p5,.bool q1,.int .i64 q2,.string (zad q3),.int .i64 q4,.int .i64 q5] 65)):=(Below.refl _ _).alloc (Nat.le_refl _) _;have BP:=Blk.new wr 65 #[.int .i64 sz,.int .i64 rw,.int .i64 nn,.bool bb,.bool p1,.int .i64 p2,.string (zad p3),.int .i64 p4,.int .i64 p5,.bool q1,.int .i64 q2,.string (zad q3),.int .i64 q4,.int .i64 q5];have b2:=New.trans b ha;obtain⟨e0,e1,e2,e3,e4,e5,e6,e7,e8,e9,e10,e11,e12,e13⟩:=zci BP;clear b ha BP;by_cases hit:k=gk/\j=ck/\q=pk
           ·obtain⟨rfl,rfl,rfl⟩:=hit
            clear VPj VCj VPk VCk VGk VP VC VG HDL H2 PKk HPK PKF;generalize V k j q=vv at*;go_wp2_with fail
            try rw[Exit.noGoto_ret]
            go_ret
            exact⟨rfl,b2⟩
           have HN:=Hz (show k<gk\/(k=gk/\(j<ck\/(j=ck/\q+1<=pk))) by have:=HIN3.out;omega);by_cases n1:k=gk
           ·have t1:((k:Int)==(gk:Int))=true:=by simp[n1]
            have N1:=Hz n1;by_cases n2:j=ck
            ·have t2:((j:Int)==(ck:Int))=true:=by simp[n2]
             have N2:=Hz n2;have n3: ¬q=pk:=fun e=>hit ⟨n1,n2,e⟩
             have n3z: ¬(q:Int)=(pk:Int):=by omega
             clear n1 n2 hit;go_wp2_with fail
             go_roundw
             case rel=>exact⟨q+1,by omega,by go_num,by rw[H2.out],HN,b2⟩
             case measure=>simp[intOf];omega
            ·have n2z: ¬(j:Int)=(ck:Int):=by omega
             clear n1 hit;go_wp2_with fail
             go_roundw
             case rel=>exact⟨q+1,by omega,by go_num,by rw[H2.out],HN,b2⟩
             case measure=>simp[intOf];omega
           ·have n1z: ¬(k:Int)=(gk:Int):=by omega
            clear hit;go_wp2_with fail
            go_roundw
            case rel=>exact⟨q+1,by omega,by go_num,by rw[H2.out],HN,b2⟩
            case measure=>simp[intOf];omega
          ·obtain rfl:q=pl.length:=by omega
           have hvc:=Hz VCj.out;have HN:=Hz (show k<gk\/(k=gk/\j+1<=ck) by
            have h1:=HIN3.out;have h2:=HPK.out;rcases h1 with h1|⟨h1,h3|⟨h3,h4⟩⟩
            ·omega
            ·omega
            ·have:=h2 h1 h3
             omega)
           go_wp2
           go_roundw
           case rel=>exact⟨j+1,by omega,by go_num,by rw[hvc.out],HN,b⟩
           case measure=>simp[intOf];omega
        ·obtain rfl:j=D.length:=by omega
         have hvg:=VGk.out;rw[<-HDl.out] at hvg;have hvg:=Hz hvg;go_wp2
         go_roundw
         case rel=>exact⟨k+1,by have:=HIN2.out;have:=HDl.out;omega,by go_num,by rw[hvg.out],b⟩
         case measure=>simp[intOf];omega
      ·exfalso
       omega
end Go.Proofs.Y
namespace Go.Hm
open Go Go.RowKit
def szL(l:List zay):Nat:=(l.map fun p=>p.1.toNat).sum
def szC(C:List (List zay)):Nat:=(C.map szL).sum
def szG(G:List za4):Nat:=(G.map fun g=>szC g.2).sum
def z2f:List zay->List Nat->List (List Nat)
 | [],_=>[]
 |p::l,x=>x.take p.1.toNat::z2f l (x.drop p.1.toNat)
def zcj:List (List zay)->List Nat->List (List (List Nat))
 | [],_=>[]
 |l::C,x=>z2f l x::zcj C (x.drop (szL l))
def zir:List za4->List Nat->List (List (List (List Nat)))
 | [],_=>[]
 |g::G,x=>zcj g.2 x::zir G (x.drop (szC g.2))
theorem znl(p:zay)(l:List zay):szL (p::l)=p.1.toNat+szL l:=by simp[szL]
theorem znm(l:List zay)(C:List (List zay)):szC (l::C)=szL l+szC C:=by simp[szC]
theorem znn(g:za4)(G:List za4):szG (g::G)=szC g.2+szG G:=by simp[szG]
theorem zno:∀(l:List zay) (x:List Nat),(z2f l x).length=l.length
 | [],_=>rfl
 |p::l,x=>by simp[z2f,zno l]
theorem znp:∀(C:List (List zay)) (x:List Nat),(zcj C x).length=C.length
 | [],_=>rfl
 |l::C,x=>by simp[zcj,znp C]
theorem zk4:∀(G:List za4) (x:List Nat),(zir G x).length=G.length
 | [],_=>rfl
 |g::G,x=>by simp[zir,zk4 G]
theorem zxm:∀(l:List zay) (x:List Nat) (q:Nat),q<l.length->(z2f l x).getD q []=(x.drop (szL (l.take q))).take (l.getD q zbp).1.toNat
 | [],_,_,h=>by simp at h
 |p::l,x,0,_=>by simp[z2f,szL]
 |p::l,x,q+1,h=>by
  simp only[z2f,List.getD_cons_succ,List.take_succ_cons,znl];rw[zxm l _ q (by simpa using h),List.drop_drop]
theorem cutC_at:∀(C:List (List zay)) (x:List Nat) (j:Nat),j<C.length->(zcj C x).getD j []=z2f (C.getD j []) (x.drop (szC (C.take j)))
 | [],_,_,h=>by simp at h
 |l::C,x,0,_=>by simp[zcj,szC]
 |l::C,x,j+1,h=>by
  simp only[zcj,List.getD_cons_succ,List.take_succ_cons,znm];rw[cutC_at C _ j (by simpa using h),List.drop_drop]
theorem zis:∀(G:List za4) (x:List Nat) (k:Nat),k<G.length->(zir G x).getD k []=zcj (G.getD k zak).2 (x.drop (szG (G.take k)))
 | [],_,_,h=>by simp at h
 |g::G,x,0,_=>by simp[zir,szG]
 |g::G,x,k+1,h=>by
  simp only[zir,List.getD_cons_succ,List.take_succ_cons,znn];rw[zis G _ k (by simpa using h),List.drop_drop]
theorem zzz{l:List zay}{q:Nat}(h:q<l.length):szL (l.take (q+1))=szL (l.take q)+(l.getD q zbp).1.toNat:=by rw[zae _ q zbp h];unfold szL;rw[List.map_append,List.sum_append];simp
theorem zs6{C:List (List zay)}{j:Nat}(h:j<C.length):szC (C.take (j+1))=szC (C.take j)+szL (C.getD j []):=by rw[zae _ j [] h];unfold szC;rw[List.map_append,List.sum_append];simp
theorem zs7{G:List za4}{k:Nat}(h:k<G.length):szG (G.take (k+1))=szG (G.take k)+szC (G.getD k zak).2:=by rw[zae _ k zak h];unfold szG;rw[List.map_append,List.sum_append];simp
theorem qd0(l:List zay)(q:Nat):szL (l.take q)<=szL l:=by
 have e:szL l=szL (l.take q)+szL (l.drop q):=by unfold szL;rw[<-List.sum_append,<-List.map_append,List.take_append_drop]
 omega
theorem qd1(C:List (List zay))(q:Nat):szC (C.take q)<=szC C:=by
 have e:szC C=szC (C.take q)+szC (C.drop q):=by unfold szC;rw[<-List.sum_append,<-List.map_append,List.take_append_drop]
 omega
theorem qd2(G:List za4)(q:Nat):szG (G.take q)<=szG G:=by
 have e:szG G=szG (G.take q)+szG (G.drop q):=by unfold szG;rw[<-List.sum_append,<-List.map_append,List.take_append_drop]
 omega
theorem zve:∀(l:List zay) (x:List Nat),(z2f l x).flatten=x.take (szL l)
 | [],x=>by simp[z2f,szL]
 |p::l,x=>by
  rw[z2f,List.flatten_cons,zve l,znl,List.take_add]
theorem zvf:∀(C:List (List zay)) (x:List Nat),(zcj C x).flatten.flatten=x.take (szC C)
 | [],x=>by simp[zcj,szC]
 |l::C,x=>by
  rw[zcj,List.flatten_cons,List.flatten_append,zve,zvf C,znm,List.take_add]
theorem zvg:∀(G:List za4) (x:List Nat),(zir G x).flatten.flatten.flatten=x.take (szG G)
 | [],x=>by simp[zir,szG]
 |g::G,x=>by
  rw[zir,List.flatten_cons,List.flatten_append,List.flatten_append,zvf,zvg G,znn,List.take_add]
theorem zk5:∀(C:List (List zay)) (x:List Nat),(zcj C x).flatten.length=C.flatten.length
 | [],_=>rfl
 |l::C,x=>by
  rw[zcj,List.flatten_cons,List.length_append,zk5 C,zno,List.flatten_cons,List.length_append]
theorem z6w{l:List zay}(h:∀p∈l,0<=p.1):(szL l:Int)=zch l:=by
 induction l with
 |nil=>rfl
 |cons p l ih=>
  have h1:=h p (by simp);have h2:=ih fun q hq=>h q (by simp[hq])
  rw[znl,zj7];omega
theorem z6x{C:List (List zay)}(h:∀l∈C,∀p∈l,0<=p.1):(szC C:Int)=(C.map zch).sum:=by
 induction C with
 |nil=>rfl
 |cons l C ih=>
  have h1:=z6w (h l (by simp));have h2:=ih fun q hq=>h q (by simp[hq])
  rw[znm,List.map_cons,List.sum_cons];omega
theorem zxn{G:List za4}(h:∀g∈G,∀l∈g.2,∀p∈l,0<=p.1):(szG G:Int)=(G.map zcc).sum:=by
 induction G with
 |nil=>rfl
 |cons g G ih=>
  have h1:=z6x (h g (by simp));have h2:=ih fun q hq=>h q (by simp[hq])
  rw[znn,List.map_cons,List.sum_cons];unfold zcc;unfold zcc at h2;omega
theorem znq{F:FootS}(h:zbj F):∀g∈F.groups,∀l∈g.2,∀p∈l,1<=p.1/\p.1<=268435456/\1<=p.2.1/\p.2.1<=65536:=by intro g hg l hl p hp;obtain⟨h1,h2,h3⟩:=h.2.1 g hg;obtain⟨i,hi,rfl⟩:=List.getElem_of_mem hl;have:=(h3 i (by omega)).1 p (by rw[List.getD_eq_getElem?_getD,List.getElem?_eq_getElem hi];exact hp);have:=(pageB_most.1 this).1;omega
end Go.Hm
namespace Go.Proofs.Y
open Go Go.RowKit Go.Hm
theorem z2g{F:FootS}(h:zbj F){k j q:Nat}(hk:k<F.groups.length)(hj:j<F.cols.length):
 zcv F.groups k j q=((szG (F.groups.take k)+szC ((F.groups.getD k zak).2.take j)+szL ((zav F.groups k j).take q):Nat):Int):=by
 have hp:=znq h;have hgk:F.groups.getD k zak∈F.groups:=zan zak hk;have hlen:=(zco h hk).2.1;have h1:=zxn (G:=F.groups.take k) (fun g hg l hl p hpp=>by have:=hp g (List.mem_of_mem_take hg) l hl p hpp;omega);have h2:=z6x (C:=(F.groups.getD k zak).2.take j) (fun l hl p hpp=>by have:=hp _ hgk l (List.mem_of_mem_take hl) p hpp;omega);have h3:=z6w (l:=(zav F.groups k j).take q) (fun p hpp=>by have hm:zav F.groups k j∈(F.groups.getD k zak).2:=zan [] (by omega);have:=hp _ hgk _ hm p (List.mem_of_mem_take hpp);omega)
 unfold zcv zva zrh;omega
theorem z2h{F:FootS}(h:zbj F):zcv F.groups F.groups.length 0 0=(szG F.groups:Int):=by have h1:=zxn (G:=F.groups) (fun g hg l hl p hpp=>by have:=znq h g hg l hl p hpp;omega);unfold zcv zva zrh;rw[List.take_length];simp only[List.take_zero,List.map_nil,List.sum_nil];have:zch []=0:=rfl;omega
end Go.Proofs.Y
