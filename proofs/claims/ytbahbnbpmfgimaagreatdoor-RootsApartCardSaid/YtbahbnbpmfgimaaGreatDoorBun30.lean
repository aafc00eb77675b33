/- Merged. -/
import Derived.Test.YtbahbnbpmfgimaaGreatDoorBun25
set_option maxHeartbeats 4000000
namespace Go.Proofs.Y
open Go Go.RowKit Go.Hm
def zvn(G:List za1)(k:Nat):Int:=((G.take k).map zcf).sum
def zrj(g:za1)(j:Nat):Int:=((g.2.take j).map zcm).sum
def zcz(G:List za1)(k j q:Nat):Int:=zvn G k+zrj (G.getD k zak) j+zcm ((zav G k j).take q)
def qc1(ng:Nat)(g c p:Int):Bool:=decide (g=(ng:Int)/\c=0/\p=0)
def pgB(n:Nat)(p:Int):Bool:=decide (0<=p/\p<(n:Int))
noncomputable def ze0(F:FootS)(g c p:Int):Int:=
 if zff F&&(qc1 F.groups.length g c p||(inB F.cols.length F.groups.length g c&&pgB (zav F.groups g.toNat c.toNat).length p)) then zcz F.groups g.toNat c.toNat p.toNat else-1
theorem zye(G:List za1):zcz G 0 0 0=0:=rfl
theorem zj7{F:FootS}(h:zbq F){k j q:Nat}(hk:k<F.groups.length)(hj:j<F.cols.length)(hq:q<(zav F.groups k j).length):
 0<=zcz F.groups k j q/\zcz F.groups k j (q+1)=zcz F.groups k j q+((zav F.groups k j).getD q zbr).1/\zcz F.groups k j (q+1)<=1073741824/\1<=((zav F.groups k j).getD q zbr).1:=by
 obtain⟨hc,hl⟩:=zjh h hk hj;have hpos:=fun p (hp:p∈zav F.groups k j)=>(pageB_most.1 (hc.1 p hp)).1.2.2.1
 have h1:=zb0 (fun p:za2=>p.1) (zav F.groups k j) q zbr hq;have h2:=ze5 (fun p:za2=>p.1) (zav F.groups k j) (q+1) (fun p hp=>by have:=hpos p hp;omega);have h3:=zg9 (fun p:za2=>p.1) ((zav F.groups k j).take q) (fun p hp=>by have:=hpos p (List.mem_of_mem_take hp);omega);have h4:=zvm h (c:=j+1) hk;have h5:=zb0 zcm (F.groups.getD k zak).2 j [] (by omega);have h6:=zg9 zcf (F.groups.take k) (fun g hg=>(h.2.1 g (List.mem_of_mem_take hg)).nonneg);have h7:=zg9 zcm ((F.groups.getD k zak).2.take j) (fun l hl=>(zcr h hk).sizes l (List.mem_of_mem_take hl));have h8:=hpos _ (zai zbr hq);unfold zcz zvn zrj;unfold zav at*;unfold zcm at*;refine⟨by omega,by omega,by omega,h8⟩
theorem zvo{F:FootS}(h:zbq F){k j:Nat}(hk:k<F.groups.length)(hj:j<F.cols.length):zcz F.groups k j (zav F.groups k j).length=zcz F.groups k (j+1) 0:=by obtain⟨hc,hl⟩:=zjh h hk hj;have h5:=zb0 zcm (F.groups.getD k zak).2 j [] (by omega);unfold zcz zrj;rw[List.take_length,h5];unfold zav;simp only[List.take_zero];have:zcm []=0:=rfl;omega
theorem zvp{F:FootS}(h:zbq F){k:Nat}(hk:k<F.groups.length):zcz F.groups k F.cols.length 0=zcz F.groups (k+1) 0 0:=by have hl:=(zcr h hk).2.1;have h5:=zb0 zcf F.groups k zak hk;unfold zcz zvn zrj;rw[h5,<-hl,List.take_length];simp only[List.take_zero,List.map_nil,List.sum_nil];have:zcm []=0:=rfl;unfold zcf;omega
set_option maxRecDepth 100000 in
theorem zvq{w:World}{Ac:Option Addr}{cc:Nat}{L:List zbc}{r:Int}{Ag:Option Addr}{cg:Nat}{G:List GrD}(h:FootIn w Ac cc L Ag G)(hp:∀g∈G,∀x∈g.2.2.2,∀p∈x.2.2,zec p.2.2){g c p:Int}:
 Calls Tryz.prog 69 #[zlb Ac cc L r Ag cg G,.int .i64 g,.int .i64 c,.int .i64 p] w (zal (.int .i64 (ze0 (zbt L r G) g c p)) w):=by
 have HR:=fun(W:World) (hW:New w W)=>zme (r:=r) (cc:=cc) (cg:=cg) (h.later hW) hp
 have HH:=Hz (fun(W:World)=>zm3 (w:=W) (Ac:=Ac) (Ag:=Ag) (nl:=L.length) (cc:=cc) (ng:=G.length) (cg:=cg) (r:=r) (g:=g) (c:=c));have hX:ze0 (zbt L r G) g c p=if zff (zbt L r G)&&(qc1 G.length g c p||(inB L.length G.length g c&&pgB (zav (G.map grP) g.toNat c.toNat).length p)) then zcz (G.map grP) g.toNat c.toNat p.toNat else-1:=by unfold ze0 zbt;simp only[List.length_map]
 have hF:zff (zbt L r G)=true->zbq (zbt L r G):=fun e=>by unfold zff at e;simpa using e
 have B0:=Blk.new w 79 #[.slice Ac L.length cc,.int .i64 r,.slice Ag G.length cg];have b0:New w (w.alloc (.cells #[.slice Ac L.length cc,.int .i64 r,.slice Ag G.length cg] 79)):=(Below.refl _ _).alloc (Nat.le_refl _) _;obtain⟨x0,x1,x2⟩:=zan B0;have HG:=Hz h.groups;have HCH:=Hz h.chunks;have HPG:=Hz h.pages;have hfew2:=h.few2;have hB:= @z78 L.length G.length g c;clear h hp;have hI:inB L.length G.length g c=decide (0<=g/\g<(G.length:Int)/\0<=c/\c<(L.length:Int)):=rfl;generalize inB L.length G.length g c=I at*;show Calls Tryz.prog 69 #[.agg #[.slice Ac L.length cc,.int .i64 r,.slice Ag G.length cg],.int .i64 g,.int .i64 c,.int .i64 p] w (zal (.int .i64 (ze0 (zbt L r G) g c p)) w);generalize ze0 (zbt L r G) g c p=X at*;generalize zff (zbt L r G)=M at*;have HR:Hid (∀W,New w W->Calls Tryz.prog 87 #[.agg #[.slice Ac L.length cc,.int .i64 r,.slice Ag G.length cg]] W (zal (.bool M) W)):=Hz HR;cases M with
 |false=>
  obtain rfl:X= -1:=by rw[hX];rfl
  clear hX hF hB hI;go_enter Tryz.func69,Tryz.ntmps69
  go_wp2_with fail
  go_step3
  go_wp2_with fail
  refine(HR.out _ b0).mono ?_;rintro e w1 ⟨rfl,b1⟩;have b01:=New.trans b0 b1;clear b0 b1;go_wp2
  try rw[Exit.noGoto_ret]
  go_ret
  exact⟨rfl,b01⟩
 |true=>
  have hok:=hF rfl;clear hF;rw[Bool.true_and] at hX;have hHH:∀(W:World) (g' c':Int),Calls Tryz.prog 101 #[.agg #[.slice Ac L.length cc,.int .i64 r,.slice Ag G.length cg],.int .i64 g',.int .i64 c'] W (zal (.bool (inB L.length G.length g' c')) W):=fun W g' c'=>zm3
  have HDL:=Hz (fun(k:Nat) (hk:k<G.length)=>show(G.getD k grZ).2.2.2.length=L.length by have:=(zcr hok (k:=k) (by unfold zbt;simpa using hk)).2.1;unfold zbt at this;dsimp only at this;rw[zbk grP G grZ zak hk] at this;unfold grP at this;simpa using this)
  have hPA:=fun(k:Nat) (hk:k<G.length) (j:Nat) (hj:j<(G.getD k grZ).2.2.2.length)=>show zav (G.map grP) k j=((G.getD k grZ).2.2.2.getD j chZ).2.2 by unfold zav;rw[zbk grP G grZ zak hk];exact zbk (fun x:ChD=>x.2.2) (G.getD k grZ).2.2.2 chZ [] hj
  have VZ:=Hz (zye (G.map grP));have VP:=Hz (fun(k:Nat) (hk:k<G.length) (j:Nat) (hj:j<(G.getD k grZ).2.2.2.length) (q:Nat) (hq:q<((G.getD k grZ).2.2.2.getD j chZ).2.2.length)=>
   show 0<=zcz (G.map grP) k j q/\zcz (G.map grP) k j (q+1)=zcz (G.map grP) k j q+(((G.getD k grZ).2.2.2.getD j chZ).2.2.getD q zbr).1/\zcz (G.map grP) k j (q+1)<=1073741824/\1<=(((G.getD k grZ).2.2.2.getD j chZ).2.2.getD q zbr).1 by
   have e:=hPA k hk j hj;have:=zj7 hok (k:=k) (j:=j) (q:=q) (by unfold zbt;simpa using hk) (by unfold zbt;dsimp only;rw[<-HDL.out k hk];exact hj) (by unfold zbt;dsimp only;rw[e];exact hq);unfold zbt at this;dsimp only at this;rw[e] at this;exact this)
  have VC:=Hz (fun(k:Nat) (hk:k<G.length) (j:Nat) (hj:j<(G.getD k grZ).2.2.2.length)=>show zcz (G.map grP) k j ((G.getD k grZ).2.2.2.getD j chZ).2.2.length=zcz (G.map grP) k (j+1) 0 by have e:=hPA k hk j hj;have:=zvo hok (k:=k) (j:=j) (by unfold zbt;simpa using hk) (by unfold zbt;dsimp only;rw[<-HDL.out k hk];exact hj);unfold zbt at this;dsimp only at this;rw[e] at this;exact this)
  have VG:=Hz (fun(k:Nat) (hk:k<G.length)=>show zcz (G.map grP) k L.length 0=zcz (G.map grP) (k+1) 0 0 from
   zvp hok (k:=k) (by unfold zbt;simpa using hk))
  by_cases hE:g=(G.length:Int)/\c=0/\p=0
  ·obtain⟨rfl,rfl,rfl⟩:=hE
   have hEB:qc1 G.length (G.length:Int) 0 0=true:=by unfold qc1;simp
   rw[hEB,Bool.true_or,if_pos rfl] at hX;simp only[Int.toNat_natCast,Int.toNat_zero] at hX;generalize zcz (G.map grP)=V at*;subst hX;clear hB hI hEB hok HH hHH hPA;go_enter Tryz.func69,Tryz.ntmps69
   go_wp2_with fail
   go_step3
   go_wp2_with fail
   refine(HR.out _ b0).mono ?_;rintro e w1 ⟨rfl,b1⟩;have B1:=B0.below b1 B0.lt;have bE:=New.trans b0 b1;clear b0 b1 B0 x0 x1 x2 HR;obtain⟨x0,x1,x2⟩:=zan B1;clear B1;go_wp2_with fail
   go_step3
   go_wp2_with fail
   clear x0 x1 x2;go_loopw [10,63] (fun a i wr=>∃k:Nat,k<=G.length/\i= .int .i64 (k:Int)/\a= .int .i64 (V k 0 0)/\New w wr) (fun _ i _=>G.length-(intOf i).toNat)
   case atStart=>exact⟨0,Nat.zero_le _,rfl,by rw[VZ.out],bE⟩
   case round=>
    obtain⟨k,hk,rfl,rfl,b⟩:=hrel;clear bE VZ;by_cases hlt:k<G.length
    ·obtain⟨ad,rfl,hb,d0,d1⟩:=(Reads.later HG.out b).gr2 hlt
     have hgm:=zai grZ hlt;have hch:=HCH.out _ hgm;have hpg:=HPG.out _ hgm;have hDl:=HDL.out k hlt;have VPk:=VP.out k hlt;have VCk:=VC.out k hlt;have VGk:=Hz (VG.out k hlt);clear hb hgm;generalize G.getD k grZ=gg at*;obtain⟨gr,Ach,cch,D⟩:=gg;dsimp only at d0 d1 hch hpg hDl VPk VCk;have VPk:=Hz VPk;have VCk:=Hz VCk;have HDl:=Hz hDl;have HCHk:=Hz hch.1;have hchl:=hch.2;have HPGk:=Hz hpg;have ha:New wr (wr.alloc (.cells #[.int .i64 gr,.slice Ach D.length cch] 114)):=(Below.refl _ _).alloc (Nat.le_refl _) _;have BG:=Blk.new wr 114 #[.int .i64 gr,.slice Ach D.length cch];have b2:=New.trans b ha;obtain⟨z0,z1⟩:=zbw BG;clear b ha BG hch hpg hDl;go_wp2_with fail
     clear z0 z1 d0 d1;go_loopw [10,71] (fun a i wr=>∃j:Nat,j<=D.length/\i= .int .i64 (j:Int)/\a= .int .i64 (V k j 0)/\New w wr) (fun _ i _=>D.length-(intOf i).toNat)
     case atStart=>exact⟨0,Nat.zero_le _,rfl,rfl,b2⟩
     case round=>
      obtain⟨j,hj,rfl,rfl,b⟩:=hrel;clear b2;by_cases hlj:j<D.length
      ·obtain⟨ac,rfl,hbc,e0⟩:=(Reads.later HCHk.out b).ch1 hlj
       have hxm:=zai chZ hlj;have hpx:=HPGk.out _ hxm;have VPj:=VPk.out j hlj;have VCj:=VCk.out j hlj;clear hbc hxm;generalize D.getD j chZ=x at*;obtain⟨Ax,cx,pl⟩:=x;dsimp only at e0 hpx VPj VCj;have VPj:=Hz VPj;have VCj:=Hz VCj;have HPL:=Hz hpx.1;have hpn:=hpx.2;clear hpx;go_wp2_with fail
       clear e0;go_loopw [10,78] (fun a i wr=>∃q:Nat,q<=pl.length/\i= .int .i64 (q:Int)/\a= .int .i64 (V k j q)/\New w wr) (fun _ i _=>pl.length-(intOf i).toNat)
       case atStart=>exact⟨0,Nat.zero_le _,rfl,rfl,b⟩
       case round=>
        clear b;obtain⟨q,hq,rfl,rfl,b⟩:=hrel;by_cases hlq:q<pl.length
        ·obtain⟨ap,rfl,hbp,d0,d1,d2,d3,d4,d5,d6,d7,d8,d9,d10,d11,d12,d13⟩:=(Reads.later HPL.out b).page14 hlq
         obtain⟨v1,v2,v3,v4⟩:=VPj.out q hlq;have vs:V k j q+(pl.getD q zbr).1<=1073741824:=by omega
         have vs0:0<=V k j q+(pl.getD q zbr).1:=by omega
         have H2:=Hz v2;clear v2 v3 v4 hbp;generalize pl.getD q zbr=p at*;obtain⟨sz,rw,nn,bb,⟨p1,p2,p3,p4,p5⟩,⟨q1,q2,q3,q4,q5⟩⟩:=p;dsimp only at d0 d1 d2 d3 d4 d5 d6 d7 d8 d9 d10 d11 d12 d13 H2 vs vs0;have ha:New wr (wr.alloc (.cells #[.int .i64 sz,.int .i64 rw,.int .i64 nn,.bool bb,.bool p1,.int .i64 p2,.string (zad p3),.int .i64 p4,.int .i64 p5,.bool q1,.int .i64 q2,.string (zad q3),.int .i64 q4,.int .i64 q5] 135)):=(Below.refl _ _).alloc (Nat.le_refl _) _;have BP:=Blk.new wr 135 #[.int .i64 sz,.int .i64 rw,.int .i64 nn,.bool bb,.bool p1,.int .i64 p2,.string (zad p3),.int .i64 p4,.int .i64 p5,.bool q1,.int .i64 q2,.string (zad q3),.int .i64 q4,.int .i64 q5];have b2:=New.trans b ha;obtain⟨e0,e1,e2,e3,e4,e5,e6,e7,e8,e9,e10,e11,e12,e13⟩:=zdr BP;clear b ha BP;have nk: ¬k=G.length:=by omega
         have nkz: ¬(k:Int)=(G.length:Int):=by omega
         go_wp2_with fail
         go_roundw
         case rel=>exact⟨q+1,by omega,by go_num,by rw[H2.out],b2⟩
         case measure=>simp[intOf];omega
        ·obtain rfl:q=pl.length:=by omega
         have hvc:=Hz VCj.out;go_wp2
         go_roundw
         case rel=>exact⟨j+1,by omega,by go_num,by rw[hvc.out],b⟩
         case measure=>simp[intOf];omega
      ·obtain rfl:j=D.length:=by omega
       have hvg:=VGk.out;rw[<-HDl.out] at hvg;have hvg:=Hz hvg;go_wp2
       go_roundw
       case rel=>exact⟨k+1,by omega,by go_num,by rw[hvg.out],b⟩
       case measure=>simp[intOf];omega
    ·obtain rfl:k=G.length:=by omega
     go_wp2
     try rw[Exit.noGoto_ret]
     go_ret
     exact⟨rfl,b⟩
  ·have hEB:qc1 G.length g c p=false:=by unfold qc1;simpa using hE
   rw[hEB,Bool.false_or] at hX;clear HH;cases I with
   |false=>
    obtain rfl:X= -1:=by rw[hX];rfl
    have HE:=Hz hE;have HH:=Hz hHH;have hi:∀g' c':Int,g'=g->c'=c->inB L.length G.length g' c'=false:=by rintro _ _ rfl rfl;exact hI.symm
    have HI:=Hz hi;clear hX hB hI hEB hE hok hHH hPA VZ VP VC VG HDL hi;go_enter Tryz.func69,Tryz.ntmps69
    go_wp2_with fail
    go_step3
    go_wp2_with fail
    refine(HR.out _ b0).mono ?_;rintro e w1 ⟨rfl,b1⟩;have B1:=B0.below b1 B0.lt;have b01:=New.trans b0 b1;clear b0 b1 B0 x0 x1 x2;obtain⟨x0,x1,x2⟩:=zan B1;go_wp2_with fail
    all_goals
     first
      |exact absurd ⟨by assumption,by assumption,by assumption⟩ HE.out
      |(refine(HH.out _ _ _).mono ?_
        rw[HI.out _ _ (by omega) (by omega)];rintro e w2 ⟨rfl,b2⟩;have b02:=New.trans b01 b2;clear b01 b2;go_wp2
        all_goals
         first
          |(try rw[Exit.noGoto_ret]
            go_ret
            exact⟨rfl,b02⟩)
          |(exfalso;simp_all;done))
   |true=>
    obtain⟨gk,ck,rfl,rfl,hgk,hck⟩:=hB rfl;rw[Bool.true_and] at hX;simp only[Int.toNat_natCast] at hX;rw[hPA gk hgk ck (by rw[HDL.out gk hgk];exact hck)] at hX;have hHH:=fun(W:World)=>hHH W gk ck
    rw[show inB L.length G.length (gk:Int) (ck:Int)=true from hI.symm] at hHH;have HH:=Hz hHH;have nE: ¬gk=G.length:=by omega
    have nEz: ¬(gk:Int)=(G.length:Int):=by omega
    clear hB hI hEB hE hok hHH hPA;generalize zcz (G.map grP)=V at*;have HX:=Hz hX;clear hX;go_enter Tryz.func69,Tryz.ntmps69
    go_wp2_with fail
    go_step3
    go_wp2_with fail
    refine(HR.out _ b0).mono ?_;rintro e w1 ⟨rfl,b1⟩;have B1:=B0.below b1 B0.lt;have b01:=New.trans b0 b1;clear b0 b1 B0 x0 x1 x2;obtain⟨x0,x1,x2⟩:=zan B1;go_wp2_with fail
    refine(HH.out _).mono ?_;rintro e w2 ⟨rfl,b2⟩;have B2:=B1.below b2 B1.lt;have bI:=New.trans b01 b2;clear b01 b2 B1 x0 x1 x2 HR HH;obtain⟨x0,x1,x2⟩:=zan B2;clear B2;obtain⟨ad0,rfl,hb0,d0,d1⟩:=(Reads.later HG.out bI).gr2 hgk;have hgm:=zai grZ hgk;have hch:=HCH.out _ hgm;have hDl:=HDL.out gk hgk;obtain⟨gg,hgg⟩:∃gg,G.getD gk grZ=gg:=⟨_,rfl⟩;rw[hgg] at d0 d1 hch hDl;have HGG:=Hz hgg;clear hgg hgm hb0;obtain⟨gr,Ach,cch,D⟩:=gg;dsimp only at d0 d1 hch hDl;have hckD:ck<D.length:=by omega
    obtain⟨ac0,rfl,hbc,e0⟩:=(Reads.later hch.1 bI).ch1 hckD;obtain⟨xx,hxx⟩:∃xx,D.getD ck chZ=xx:=⟨_,rfl⟩;rw[hxx] at e0;have HXX:=Hz hxx;clear hxx hbc hch;obtain⟨Ax,cx,pl⟩:=xx;dsimp only at e0;have hX:=HX.out;rw[HGG.out] at hX;dsimp only at hX;rw[HXX.out] at hX;dsimp only at hX;clear HX;by_cases hp0:p<0
    ·obtain rfl:X= -1:=by rw[hX,if_neg];unfold pgB;simp;omega
     clear hX;go_wp2
     try rw[Exit.noGoto_ret]
     go_ret
     exact⟨rfl,bI⟩
    by_cases hp1:(pl.length:Int)<=p
    ·obtain rfl:X= -1:=by rw[hX,if_neg];unfold pgB;simp;omega
     clear hX;go_wp2
     try rw[Exit.noGoto_ret]
     go_ret
     exact⟨rfl,bI⟩
    ·obtain⟨pk,rfl⟩:∃pk:Nat,p=(pk:Int):=⟨p.toNat,by omega⟩
     obtain rfl:X=V gk ck pk:=by rw[hX,if_pos (by unfold pgB;simp;omega)];rfl
     have PKF:=Hz (show∀k j:Nat,k=gk->j=ck->pk<((G.getD k grZ).2.2.2.getD j chZ).2.2.length by rintro _ _ rfl rfl;rw[HGG.out];dsimp only;rw[HXX.out];dsimp only;omega)
     clear hX HGG HXX;go_wp2_with fail
     go_step3
     go_wp2_with fail
     clear d0 d1 e0 hDl hckD hp0 hp1 nE nEz;try generalize((gk:Int)==(G.length:Int))=z1
     try generalize(decide ((pk:Int)<0))=z2
     try generalize(decide (pl.length<=pk))=z3
     try generalize(decide ((pl.length:Int)<=(pk:Int)))=z4
     clear x0 x1 x2;go_loopw [10,63] (fun a i wr=>∃k:Nat,k<=gk/\i= .int .i64 (k:Int)/\a= .int .i64 (V k 0 0)/\New w wr) (fun _ i _=>G.length-(intOf i).toNat)
     case atStart=>exact⟨0,Nat.zero_le _,rfl,by rw[VZ.out],bI⟩
     case round=>
      obtain⟨k,hk,rfl,rfl,b⟩:=hrel;clear bI VZ;by_cases hlt:k<G.length
      ·obtain⟨ad,hAe,hb,d0,d1⟩:=(Reads.later HG.out b).gr2 hlt
       obtain rfl:=Option.some.inj hAe;have hgm:=zai grZ hlt;have hch:=HCH.out _ hgm;have hpg:=HPG.out _ hgm;have hDl:=HDL.out k hlt;have VPk:=VP.out k hlt;have VCk:=VC.out k hlt;have VGk:=Hz (VG.out k hlt);have PKk:=PKF.out k;clear hb hgm;generalize G.getD k grZ=gg at*;obtain⟨gr,Ach,cch,D⟩:=gg;dsimp only at d0 d1 hch hpg hDl VPk VCk PKk;have PKk:=Hz PKk;have VPk:=Hz VPk;have VCk:=Hz VCk;have HDl:=Hz hDl;have HCHk:=Hz hch.1;have hchl:=hch.2;have HPGk:=Hz hpg;have ha:New wr (wr.alloc (.cells #[.int .i64 gr,.slice Ach D.length cch] 114)):=(Below.refl _ _).alloc (Nat.le_refl _) _;have BG:=Blk.new wr 114 #[.int .i64 gr,.slice Ach D.length cch];have b2:=New.trans b ha;obtain⟨z0,z1⟩:=zbw BG;clear b ha BG hch hpg hDl;go_wp2_with fail
       clear z0 z1 d0 d1;go_loopw [10,71] (fun a i wr=>∃j:Nat,j<=D.length/\i= .int .i64 (j:Int)/\a= .int .i64 (V k j 0)/\Hid (k<gk\/(k=gk/\j<=ck))/\New w wr) (fun _ i _=>D.length-(intOf i).toNat)
       case atStart=>exact⟨0,Nat.zero_le _,rfl,rfl,Hz (by omega),b2⟩
       case round=>
        obtain⟨j,hj,rfl,rfl,HIN2,b⟩:=hrel;clear b2;by_cases hlj:j<D.length
        ·obtain⟨ac,rfl,hbc,e0⟩:=(Reads.later HCHk.out b).ch1 hlj
         have hxm:=zai chZ hlj;have hpx:=HPGk.out _ hxm;have VPj:=VPk.out j hlj;have VCj:=VCk.out j hlj;have PKj:=PKk.out j;clear hbc hxm;generalize D.getD j chZ=x at*;obtain⟨Ax,cx,pl⟩:=x;dsimp only at e0 hpx VPj VCj PKj;have HPK:=Hz PKj;have VPj:=Hz VPj;have VCj:=Hz VCj;have HPL:=Hz hpx.1;have hpn:=hpx.2;clear hpx;go_wp2_with fail
         clear e0;go_loopw [10,78] (fun a i wr=>∃q:Nat,q<=pl.length/\i= .int .i64 (q:Int)/\a= .int .i64 (V k j q)/\Hid (k<gk\/(k=gk/\(j<ck\/(j=ck/\q<=pk))))/\New w wr) (fun _ i _=>pl.length-(intOf i).toNat)
         case atStart=>exact⟨0,Nat.zero_le _,rfl,rfl,Hz (by have:=HIN2.out;omega),b⟩
         case round=>
          clear b;obtain⟨q,hq,rfl,rfl,HIN3,b⟩:=hrel;by_cases hlq:q<pl.length
          ·obtain⟨ap,rfl,hbp,d0,d1,d2,d3,d4,d5,d6,d7,d8,d9,d10,d11,d12,d13⟩:=(Reads.later HPL.out b).page14 hlq
           obtain⟨v1,v2,v3,v4⟩:=VPj.out q hlq;have vs:V k j q+(pl.getD q zbr).1<=1073741824:=by omega
           have vs0:0<=V k j q+(pl.getD q zbr).1:=by omega
           have H2:=Hz v2;clear v2 v3 v4 hbp;generalize pl.getD q zbr=p at*;obtain⟨sz,rw,nn,bb,⟨p1,p2,p3,p4,p5⟩,⟨q1,q2,q3,q4,q5⟩⟩:=p;dsimp only at d0 d1 d2 d3 d4 d5 d6 d7 d8 d9 d10 d11 d12 d13 H2 vs vs0;have ha:New wr (wr.alloc (.cells #[.int .i64 sz,.int .i64 rw,.int .i64 nn,.bool bb,.bool p1,.int .i64 p2,.string (zad p3),.int .i64 p4,.int .i64 p5,.bool q1,.int .i64 q2,.string (zad q3),.int .i64 q4,.int .i64 q5] 135)):=(Below.refl _ _).alloc (Nat.le_refl _) _;have BP:=Blk.new wr 135 #[.int .i64 sz,.int .i64 rw,.int .i64 nn,.bool bb,.bool p1,.int .i64 p2,.string (zad p3),.int .i64 p4,.int .i64 p5,.bool q1,.int .i64 q2,.string (zad q3),.int .i64 q4,.int .i64 q5];have b2:=New.trans b ha;obtain⟨e0,e1,e2,e3,e4,e5,e6,e7,e8,e9,e10,e11,e12,e13⟩:=zdr BP;clear b ha BP;by_cases hit:k=gk/\j=ck/\q=pk
           ·obtain⟨rfl,rfl,rfl⟩:=hit
            clear VPj VCj VPk VCk VGk VP VC VG HDL H2 PKk HPK PKF;generalize V k j q=vv at*;go_wp2_with fail
            try rw[Exit.noGoto_ret]
            go_ret
            exact⟨rfl,b2⟩
           have HN:=Hz (show k<gk\/(k=gk/\(j<ck\/(j=ck/\q+1<=pk))) by have:=HIN3.out;omega);by_cases n1:k=gk
           ·have t1:((k:Int)==(gk:Int))=true:=by simp[n1]
            have N1:=Hz n1;by_cases n2:j=ck
            ·have t2:((j:Int)==(ck:Int))=true:=by simp[n2]
             have N2:=Hz n2;have n3: ¬q=pk:=fun e=>hit ⟨n1,n2,e⟩
             have n3z: ¬(q:Int)=(pk:Int):=by omega
             clear n1 n2 hit;go_wp2_with fail
             go_roundw
             case rel=>exact⟨q+1,by omega,by go_num,by rw[H2.out],HN,b2⟩
             case measure=>simp[intOf];omega
            ·have n2z: ¬(j:Int)=(ck:Int):=by omega
             clear n1 hit;go_wp2_with fail
             go_roundw
             case rel=>exact⟨q+1,by omega,by go_num,by rw[H2.out],HN,b2⟩
             case measure=>simp[intOf];omega
           ·have n1z: ¬(k:Int)=(gk:Int):=by omega
            clear hit;go_wp2_with fail
            go_roundw
            case rel=>exact⟨q+1,by omega,by go_num,by rw[H2.out],HN,b2⟩
            case measure=>simp[intOf];omega
          ·obtain rfl:q=pl.length:=by omega
           have hvc:=Hz VCj.out;have HN:=Hz (show k<gk\/(k=gk/\j+1<=ck) by
            have h1:=HIN3.out;have h2:=HPK.out;rcases h1 with h1|⟨h1,h3|⟨h3,h4⟩⟩
            ·omega
            ·omega
            ·have:=h2 h1 h3
             omega)
           go_wp2
           go_roundw
           case rel=>exact⟨j+1,by omega,by go_num,by rw[hvc.out],HN,b⟩
           case measure=>simp[intOf];omega
        ·obtain rfl:j=D.length:=by omega
         have hvg:=VGk.out;rw[<-HDl.out] at hvg;have hvg:=Hz hvg;go_wp2
         go_roundw
         case rel=>exact⟨k+1,by have:=HIN2.out;have:=HDl.out;omega,by go_num,by rw[hvg.out],b⟩
         case measure=>simp[intOf];omega
      ·exfalso
       omega
end Go.Proofs.Y
