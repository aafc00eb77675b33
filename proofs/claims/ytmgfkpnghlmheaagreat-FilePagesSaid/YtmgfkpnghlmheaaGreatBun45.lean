/- Merged. -/
import Derived.Test.YtmgfkpnghlmheaaGreatBun32
import Derived.Test.YtmgfkpnghlmheaaGreatBun44
set_option maxHeartbeats 2000000
namespace Go.Proofs.Y
open Go.RowKit Go.Hm
noncomputable def zo7(b:List Nat)(F:FootS)(g c p:Int):Option (List Nat):=
 if zef F g c p<0\/(F.groups.length:Int)<=g then none
 else if(b.length:Int)<4+zef F g c p+((zaw F.groups g.toNat c.toNat).getD p.toNat za9).1 then none
 else some ((b.drop (4+(zef F g c p).toNat)).take ((zaw F.groups g.toNat c.toNat).getD p.toNat za9).1.toNat)
theorem z7t{F:FootS}{g c p:Int}(h:0<=zef F g c p)(hg:g<(F.groups.length:Int)):
 zbj F/\ ∃gk ck pk:Nat,g=(gk:Int)/\c=(ck:Int)/\p=(pk:Int)/\gk<F.groups.length/\ck<F.cols.length/\pk<(zaw F.groups gk ck).length:=by
 unfold zef at h;split at h
 ·rename_i hc
  rw[Bool.and_eq_true,Bool.or_eq_true,Bool.and_eq_true] at hc;obtain⟨h1,h2⟩:=hc;have hok:zbj F:=by unfold zc9 at h1;simpa using h1
  rcases h2 with h2|⟨h2,h3⟩
  ·unfold z69 at h2
   simp only[decide_eq_true_eq] at h2;omega
  ·obtain⟨gk,ck,rfl,rfl,h4,h5⟩:=z68 h2
   unfold pgB at h3;simp only[decide_eq_true_eq,Int.toNat_natCast] at h3;exact⟨hok,gk,ck,p.toNat,rfl,rfl,by omega,h4,h5,by omega⟩
 ·omega
theorem z0k{F:FootS}(h:zbj F){gk ck pk:Nat}(h1:gk<F.groups.length)(h2:ck<F.cols.length)(h3:pk<(zaw F.groups gk ck).length):zef F (gk:Int) (ck:Int) (pk:Int)=zcx F.groups gk ck pk:=by
 unfold zef;have e:zc9 F=true:=by unfold zc9;simpa using h
 have e1:inB F.cols.length F.groups.length (gk:Int) (ck:Int)=true:=by unfold inB;simp;omega
 have e2:pgB (zaw F.groups gk ck).length (pk:Int)=true:=by unfold pgB;simp;omega
 simp only[e,e1,Int.toNat_natCast,e2,Bool.true_and,Bool.or_true,if_true]
def z0l(o:Option (List Nat))(w:World)(e:Ending)(w':World):Prop:=
 New w w'/\match o with
 |none=>e= .returned (.tuple #[.slice none 0 0,.bool false])
 |some x=>∃A n c,e= .returned (.tuple #[.slice A n c,.bool true])/\Go.Hm.Own w' w.heap.size 5 (.slice A n c) (za2 .u8 x)
set_option maxRecDepth 100000 in
theorem ztf{w:World}{A:Option Addr}{cb:Nat}{b:List Nat}{Ac:Option Addr}{cc:Nat}{L:List za1}{r:Int}{Ag:Option Addr}{cg:Nat}{G:List GrD}{g c p:Int}
 (hb:Reads w w.heap.size 1 A b.length (za2 .u8 b))(hbc:b.length<=cb)
 (h:FootIn w Ac cc L Ag G)(hp:∀g∈G,∀x∈g.2.2.2,∀p∈x.2.2,zco p.2.2):
 Calls Tryz.prog 24 #[.slice A b.length cb,zhx Ac cc L r Ag cg G,.int .i64 g,.int .i64 c,.int .i64 p] w (z0l (zo7 b (za3 L r G) g c p) w):=by
 have b0:New w (w.alloc (.cells #[.slice Ac L.length cc,.int .i64 r,.slice Ag G.length cg] 38)):=(Below.refl _ _).alloc (Nat.le_refl _) _;have B0:=Blk.new w 38 #[.slice Ac L.length cc,.int .i64 r,.slice Ag G.length cg];have PL:=Hz (fun(W:World) (hW:New w W)=>zve (r:=r) (cc:=cc) (cg:=cg) (g:=g) (c:=c) (p:=p) (h.later hW) hp);have hy:= @z7t (za3 L r G) g c p;have hgl:(za3 L r G).groups.length=G.length:=by unfold za3;simp
 obtain⟨X,hX⟩:∃X,X=zo7 b (za3 L r G) g c p:=⟨_,rfl⟩;rw[<-hX];unfold zo7 at hX;rw[hgl] at hX hy;generalize hV:zef (za3 L r G) g c p=V at*;unfold zhx at PL⊢;obtain⟨x0,x1,x2⟩:=zad B0;replace hX:=Hz hX;replace hy:=Hz hy;replace hV:=Hz hV;have HF:=Hz h;have HR:=Hz hb;clear h hb hp;go_enter Tryz.func24,Tryz.ntmps24
 go_wp2_with fail
 refine(PL.out _ b0).mono ?_;rintro e w1 ⟨rfl,b1⟩;have b01:=New.trans b0 b1;have B1:=B0.below b1 B0.lt;clear PL x0 x1 x2 B0 b0 b1;obtain⟨x0,x1,x2⟩:=zad B1;by_cases hlt:V<0
 ·have hN:X=none:=by rw[hX.out,if_pos (.inl hlt)]
  subst hN;clear hX hy hV HF HR hgl;go_wp2_with fail
  go_ret2
  exact⟨b01,rfl⟩
 ·by_cases hg:(G.length:Int)<=g
  ·have hN:X=none:=by rw[hX.out,if_pos (.inr hg)]
   subst hN;have hlt2:0<=V:=by omega
   clear hX hy hV HF HR hlt hgl;go_wp2_with fail
   go_ret2
   exact⟨b01,rfl⟩
  ·have hx:=hX.out
   rw[if_neg (by omega)] at hx;obtain⟨hok,gk,ck,pk,rfl,rfl,rfl,h1,h2,h3⟩:=hy.out (by omega) (by omega);have hv0:=hV.out;rw[z0k hok (by rw[hgl];exact h1) h2 h3] at hv0;have hv:=zjw hok (by rw[hgl];exact h1) h2 h3;rw[hv0] at hv;have hcl:(G.getD gk grZ).2.2.2.length=L.length:=by have:=(zcr hok (k:=gk) (by rw[hgl];exact h1)).2.1;unfold za3 at this;dsimp only at this;rw[zbe grP G grZ zaj h1] at this;unfold grP at this;simpa using this
   have h2:ck<L.length:=h2;have hpa:zaw (za3 L r G).groups gk ck=((G.getD gk grZ).2.2.2.getD ck chZ).2.2:=by unfold zaw za3;dsimp only;rw[zbe grP G grZ zaj h1];exact zbe (fun x:ChD=>x.2.2) (G.getD gk grZ).2.2.2 chZ [] (by omega)
   simp only[Int.toNat_natCast] at hx;rw[hpa] at hx h3 hv;have FI:=HF.out.later b01;have RB:=Reads.later HR.out b01;have hgm:G.getD gk grZ∈G:=zal grZ h1;obtain⟨rch,_⟩:=FI.chunks _ hgm;have hcm:(G.getD gk grZ).2.2.2.getD ck chZ∈(G.getD gk grZ).2.2.2:=zal chZ (by omega);obtain⟨rpg,_⟩:=FI.pages _ hgm _ hcm;obtain⟨ag,rfl,_,g0,g1⟩:=FI.groups.gr2 h1;have hl5:=FI.few2;generalize G.getD gk grZ=gd at*;obtain⟨gr,Ach,cch,D⟩:=gd;dsimp only at rch hcl hcm rpg g0 g1 hx hv h3;obtain⟨ac,rfl,_,d0⟩:=rch.ch1 (i:=ck) (by omega);generalize D.getD ck chZ=cd at*;obtain⟨Ap,cp,P⟩:=cd;dsimp only at rpg d0 hx hv h3;obtain⟨ap,rfl,_,p0,_⟩:=rpg.page14 h3;have hpl:P.length<=4611686018427387903:=by omega
   generalize(P.getD pk za9).1=sz at*;obtain⟨vn,rfl⟩:=Int.eq_ofNat_of_zero_le (show 0<=V by omega);obtain⟨sn,rfl⟩:=Int.eq_ofNat_of_zero_le (show 0<=sz by omega);have k1:vn+sn<=1073741824:=by have:=hv.2.1;have:=hv.2.2.1;omega
   simp only[Int.toNat_natCast] at hx;have HX:=Hz hx;have HCM:=Hz hcm;have hck:ck<D.length:=by omega
   have hcd:D.length<=4611686018427387903:=by have:=FI.few;omega
   have j1:(0:Int)<=(vn:Int):=by omega
   have j2:(gk:Int)<(G.length:Int):=by omega
   have j3:(ck:Int)<(D.length:Int):=by omega
   have j4:(pk:Int)<(P.length:Int):=by omega
   have j5:(vn:Int)+(sn:Int)<=1073741824:=by omega
   replace RB:=Hz RB;clear hX hy hV HF HR hgl hv hv0 hok hpa hx hcm FI rch rpg hgm hcl;by_cases hs:(b.length:Int)<4+(vn:Int)+(sn:Int)
   ·have hN:X=none:=by rw[HX.out,if_pos hs]
    subst hN;have B01:=Hz b01;clear hlt hg RB HX HCM h1 h2 h3 hbc hpl hck hcd k1 hl5 b01;go_wp2_with fail
    go_ret2
    exact⟨B01.out,rfl⟩
   ·have hN:X=some ((b.drop (4+vn)).take sn):=by rw[HX.out,if_neg hs]
    subst hN;have hs2:4+(vn:Int)+(sn:Int)<=(b.length:Int):=by omega
    have S1:(Instr.sliceAt 31 (.slice A b.length cb) (some (.int .i64 (4+(vn:Int)))) (some (.int .i64 (4+(vn:Int)+(sn:Int)))) none).run Tryz.prog w1= .ok (.slice (if cb=4+vn then A else A.map (·.add ((4+vn)*1))) sn (cb-(4+vn))) w1:=by have:=zg7 zu3 zu4 A b.length cb (4+vn) (4+vn+sn) (by omega) (by omega) w1;rwa[show((4+vn:Nat):Int)=4+(vn:Int) by omega,show((4+vn+sn:Nat):Int)=4+(vn:Int)+(sn:Int) by omega,show 4+vn+sn-(4+vn)=sn by omega] at this
    have R1:Reads w1 w1.heap.size 1 (if cb=4+vn then A else A.map (·.add ((4+vn)*1))) sn (za2 .u8 ((b.drop (4+vn)).take sn)):=by have:=(RB.out.cut (k:=4+vn) (cap:=cb) (by omega) hbc).take (k:=sn) (by omega);simpa only[Nat.mul_one,ze3,zfw] using this
    have CL:=Hz (zgw (c:=cb-(4+vn)) R1 (by omega));generalize(if cb=4+vn then A else A.map (·.add ((4+vn)*1)))=A2 at*;generalize cb-(4+vn)=c2 at*;have B01:=Hz b01;clear hlt hg RB HX HCM h1 h2 h3 hbc hpl hck hcd k1 hl5 b01 R1 hs;go_wp2_with fail
    refine CL.out.mono ?_;rintro e w2 ⟨A3,n3,c3,rfl,o3,b2⟩;clear CL S1;go_wp2_with fail
    go_ret2
    exact⟨New.trans B01.out b2,A3,n3,c3,rfl,o3.base_le B01.out.size⟩
open Go.RowKit Go.Hm
noncomputable def zmk(F:FootS)(b:List Nat):List (List Nat):=(zh7 F.groups (b.drop 4)).flatten.flatten
noncomputable def readO(b:List Nat):Option (FootS × List (List zab)):=
 match openO b with
 |none=>none
 |some x=>match qc1 x.1 (zmk x.1 b) with
  |none=>none
  |some C=>some (x.1,C)
def qhz(X:Option (FootS × List (List zab)))(w:World)(e:Ending)(w':World):Prop:=
 match X with
 |none=>TabPost 2 [] 0 [] w e w'
 |some x=>TabPost 0 x.1.cols x.1.rows x.2 w e w'
def znj(b:List Nat)(w:World)(e:Ending)(w':World):Prop:=qhz (readO b) w e w'
theorem zml{α:Type}{p:List α}:∀{L:List (List α)},p∈L->p.length<=L.flatten.length
 | [],h=>by cases h
 |q::L,h=>by
  rw[List.flatten_cons,List.length_append];rcases List.mem_cons.1 h with rfl|h
  ·omega
  ·have:=zml h
   omega
theorem z06{G:List za5}{x p:List Nat}(h:p∈(zh7 G x).flatten.flatten):(∀y∈p,y∈x)/\p.length<=x.length:=by
 have e:=zvh G x;refine⟨fun y hy=>?_,?_⟩
 ·have:y∈(zh7 G x).flatten.flatten.flatten:=List.mem_flatten.2 ⟨p,h,hy⟩
  rw[e] at this;exact List.mem_of_mem_take this
 ·have h1:p.length<=(zh7 G x).flatten.flatten.flatten.length:=zml h
  rw[e,List.length_take] at h1;omega
theorem z07{n:Nat}:∀{C:List (List zax)},(∀l∈C,l.length<=n)->C.flatten.length<=C.length*n
 | [],_=>by simp
 |l::C,h=>by
  have h1:=h l (by simp);have h2:=z07 (C:=C) fun q hq=>h q (by simp[hq])
  rw[List.flatten_cons,List.length_append,List.length_cons,Nat.succ_mul];omega
theorem z08{cols:List za1}(hc:cols.length<=64):∀{G:List za5} (x:List Nat),(∀g∈G,GroupOk cols g)->((zh7 G x).flatten.flatten.length:Int)<=64*(G.map (·.1)).sum
 | [],x,_=>by simp[zh7]
 |g::G,x,h=>by
  obtain⟨h1,h2,h3⟩:=h g (by simp);have ih:=z08 hc (G:=G) (x.drop (szC g.2)) fun q hq=>h q (by simp[hq])
  obtain⟨n,hn⟩:=Int.eq_ofNat_of_zero_le (show 0<=g.1 by omega);have h4:∀l∈g.2,l.length<=n:=fun l hl=>by obtain⟨i,hi,rfl⟩:=List.getElem_of_mem hl;obtain⟨a,b⟩:=h3 i (by omega);rw[List.getD_eq_getElem?_getD,List.getElem?_eq_getElem hi] at a b;have a2:=zeo a;simp only[Option.getD_some] at a2 b;omega
  have h5:=z07 h4;have h6:g.2.length*n<=64*n:=Nat.mul_le_mul_right _ (by omega);rw[zh7,List.flatten_cons,List.flatten_append,List.length_append,zku,List.map_cons,List.sum_cons,hn];omega
theorem zrz{F:FootS}(h:zbj F)(b:List Nat):(zmk F b).length<=4194304:=by have h1:=z08 h.1.1 (b.drop 4) h.2.1;have h2:=h.2.2.1;have h3:=h.2.2.2.1;unfold zmk;omega
theorem zwd{α:Type}(l:List (List (List α)))(k:Nat):((l.take k).flatten.flatten).length<=l.flatten.flatten.length:=by
 conv=>rhs;rw[<-List.take_append_drop k l,List.flatten_append,List.flatten_append,List.length_append]
 omega
theorem qdd(D:List zfp):(zc1 D).map byP=(D.map rwP).flatten:=by
 induction D with
 |nil=>rfl
 |cons d D ih=>
  have e:zc1 (d::D)=d.2.2++zc1 D:=by simp[zc1]
  rw[e,List.map_append,ih,List.map_cons,List.flatten_cons];rfl
set_option maxRecDepth 100000 in
theorem zwe{w:World}{A:Option Addr}{c:Nat}{b:List Nat}(h:Reads w w.heap.size 1 A b.length (za2 .u8 b))(h8:∀x∈b,x<256)(hb:b.length<=140737488351232)(hc:b.length<=c)(hc2:c<=9223372036854775807):
 Calls Tryz.prog 15 #[.slice A b.length c] w (znj b w):=by
 obtain⟨W,hW⟩:∃W,W=w.alloc (.cells #[.slice none 0 0,.int .i64 0,.slice none 0 0] 25):=⟨_,rfl⟩;have n1:New w W:=by rw[hW];exact(Below.refl _ _).alloc (Nat.le_refl _) _
 have BZ:Blk W w.heap.size 25 #[.slice none 0 0,.int .i64 0,.slice none 0 0]:=by rw[hW];exact Blk.new _ _ _
 have O:=Hz (zte (c:=c) (Reads.later h n1) h8 hb hc hc2);have HIS:=Hz (fun F s ho=>znf (F:=F) (s:=s) h8 hb ho);have HR:=Hz (Reads.later h n1);have HO:Hid (readO b=match openO b with
  |none=>none
  |some x=>match qc1 x.1 (zmk x.1 b) with
   |none=>none
   |some C=>some (x.1,C)):=Hz rfl
 unfold znj;generalize readO b=X at*;have H8:=Hz h8;have HB:=Hz (And.intro hb (And.intro hc hc2));rw[hW] at O;have HW:=Hz hW;have HZ:=Hz BZ;clear h h8 hW BZ hb hc hc2;go_enter Tryz.func15,Tryz.ntmps15
 go_wp2_with fail
 refine O.out.mono ?_;rintro e W1 ⟨b1,hpost⟩;rw[<-HW.out] at b1;have b01:=New.trans n1 b1;have BZ1:=HZ.out.below b1 HZ.out.lt;clear O n1;cases ho:openO b with
 |none=>
  rw[ho] at hpost;obtain rfl:=hpost;have hx:X=none:=by rw[HO.out,ho]
  subst hx;clear ho HIS
  go_upto_region 2 with(refine zah rfl 38 (.tmp 4) (.tmp 13) rfl W1.heap.size _ rfl rfl (Blk.new W1 38 #[.slice none 0 0,.int .i64 0,.slice none 0 0]) (by kernel_rfl) rfl (by simp[Value.oneCell']) ?_
                        intro W2 BF G2;have b2:New W1 W2:=zay ((Below.refl _ _).alloc (Nat.le_refl _) _) G2 (Nat.le_refl _) (Nat.le_refl _);have BZ2:=BZ1.below b2 BZ1.lt;clear BF G2 BZ1)
  go_wp2_with (refine zah rfl 25 (.tmp 2) (.tmp 18) rfl w.heap.size _ rfl rfl BZ2 (by kernel_rfl) rfl (by simp[Value.oneCell']) ?_
               intro W3 BR G3;obtain⟨r0,r1,r2⟩:=zad BR)
  exact bodyPost_ret (v:= .tuple #[.agg #[.slice none 0 0,.int .i64 0,.slice none 0 0],.int .i64 2]) (by simp[results,Tryz.results15,go_sem,r0,r1,r2]) rfl (zk3 (zay (New.trans b01 b2) G3 (Nat.le_refl _) (Nat.le_refl _)))
 |some x=>
  obtain⟨F,s⟩:=x;rw[ho] at hpost;obtain⟨Ac,cc,L,r,Ag,cg,G,A1,m1,c1,rfl,hFP,FI,hcg,o1⟩:=hpost;dsimp only at hFP o1;obtain⟨f1,f2,f3,f4,f5,f6,f7⟩:=HIS.out F s ho;have hx:=HO.out;rw[ho] at hx;dsimp only at hx;rw[<-hFP] at f1 f2 f5 hx;have hFew:=zrz f1 b;have hFG:(za3 L r G).groups=G.map grP:=rfl;unfold zmk at hx hFew;rw[hFG] at hx hFew f5;obtain⟨hb,hc,hc2⟩:=HB.out;have hs:4+szG (G.map grP)<=b.length:=by omega
  have CU:=fun(W:World) (hW:New W1 W)=>z3q (r:=r) (cc:=cc) (cg:=cg) (Reads.later (HR.out.later b1) hW) hb hc hc2 (FI.later hW) f1 hs
  unfold zlu at CU;have CU:=Hz CU;have hCGl:(zh7 (G.map grP) (b.drop 4)).length<=65536:=by rw[zkt];exact(zni f1).1
  have HC64:=Hz (fun(k:Nat) (hk:k<(zh7 (G.map grP) (b.drop 4)).length)=>show((zh7 (G.map grP) (b.drop 4)).getD k []).length<=64 by obtain⟨_,n2,n3⟩:=zni f1;rw[zkt] at hk;rw[zim _ _ _ hk,znb];have:=(n3 k hk).1;rw[hFG] at this;omega)
  have TA:=Hz (fun(W:World) (hW:New W1 W) (Ap:Option Addr) (cp:Nat) (P:List zh6) hP hPn=>zwc (r:=r) (cc:=cc) (cg:=cg) (Ap:=Ap) (cp:=cp) (P:=P) (FI.later hW) (zkx f2) hP hPn);have HMEM:=Hz (fun p (hp:p∈(zh7 (G.map grP) (b.drop 4)).flatten.flatten)=>z06 hp);generalize zh7 (G.map grP) (b.drop 4)=CG at*;have HX:=Hz hx;have HFew:=Hz hFew;have HFP:=Hz hFP;unfold zhx at CU TA⊢;clear f1 f2 f3 f4 f5 f6 f7 hx hFew hFP FI o1 hb hc hc2 hs ho HIS HO hcg hFG
  go_upto_region 2 with(refine zah rfl 38 (.tmp 4) (.tmp 13) rfl W1.heap.size _ rfl rfl (Blk.new W1 38 #[.slice none 0 0,.int .i64 0,.slice none 0 0]) (by kernel_rfl) rfl (by simp[Value.oneCell']) ?_
                        intro W2 BF G2;have b2:New W1 W2:=zay ((Below.refl _ _).alloc (Nat.le_refl _) _) G2 (Nat.le_refl _) (Nat.le_refl _);have BZ2:=BZ1.below b2 BZ1.lt;obtain⟨x0,x1,x2⟩:=zad BF;clear G2 BZ1)
  have b02:=New.trans b01 b2;go_wp2_with fail
  refine(CU.out W2 b2).mono ?_;rintro e w4 ⟨AX,XR,rfl,b4,RX,HXR,hXP⟩;clear CU x0 x1 x2;have BF4:=BF.below b4 BF.lt;have BZ4:=BZ2.below b4 BZ2.lt;have b04:=Hz (New.trans b02 b4);have b14:=Hz (New.trans b2 b4);have RX:=Hz RX;have HXR:=Hz HXR;have hXl:=congrArg List.length hXP;rw[List.length_map] at hXl;have hXR:XR.length<=65536:=by omega
  have HXL:=Hz hXl;have HXP:=Hz hXP;have HZ4:=Hz BZ4;have HF4:=Hz BF4;clear hXl hXP BF BZ2 b2 b4 b02 BZ4 BF4 b01 b1;go_wp2_with fail
  go_loopw [7,24] (fun v i wr=>∃(k:Nat) (A2:Option Addr) (c2:Nat) (P:List zh6),k<=XR.length/\i= .int .i64 (k:Int)/\v= .slice A2 P.length c2/\Hid (Go.Hm.Own wr w4.heap.size 31 (.slice A2 P.length c2) (recs zja P))/\Hid (P.map byP=(CG.take k).flatten.flatten)/\Hid (∀d∈P,PieceIn w4 d)/\New w4 wr) (fun _ i _=>XR.length-(intOf i).toNat)
  case atStart=>exact⟨0,none,0,[],Nat.zero_le _,rfl,rfl,Hz Own.nil_,Hz rfl,Hz (by simp),New.refl _⟩
  case round=>
   obtain⟨k,A2,c2,P,hk,rfl,rfl,OP,HP,HPI,bw⟩:=hrel;by_cases hlt:k<XR.length
   ·obtain⟨ax,rfl,_,_,hcx⟩:=(Reads.later RX.out bw).rec_ (f:=zyj) (sz:=1) (fun _=>rfl) (none,0,[]) hlt (by omega)
    have hcx:=hcx 0 _ rfl;rw[Nat.mul_one,Nat.add_zero] at hcx;have hgm:XR.getD k (none,0,[])∈XR:=zal _ hlt;obtain⟨hg1,hg2,hg3⟩:=HXR.out _ hgm;have hgP:gpP (XR.getD k (none,0,[]))=CG.getD k []:=by rw[<-HXP.out,zbe gpP XR (none,0,[]) [] hlt]
    have htk:=zae CG k [] (by rw[<-HXL.out];exact hlt);have hle:=zwd CG (k+1);have hfew:=HFew.out;rw[<-hgP] at htk;generalize XR.getD k (none,0,[])=g at*;obtain⟨ga,gc,gl⟩:=g;dsimp only at hcx hg1 hg2 hg3;have hPl:=congrArg List.length HP.out;rw[List.length_map] at hPl;have hfl:(zc1 gl).map byP=(gpP (ga,gc,gl)).flatten:=qdd gl;have hfl2:=congrArg List.length hfl;rw[List.length_map] at hfl2;have hsum:P.length+(zc1 gl).length<=4194304:=by rw[htk,List.flatten_append,List.flatten_append,List.length_append,List.flatten_cons,List.flatten_nil,List.append_nil] at hle;omega
    have hgl:gl.length<=5000000000000:=by have h1:=HC64.out k (by rw[<-HXL.out];exact hlt);rw[<-hgP] at h1;unfold gpP at h1;rw[List.length_map] at h1;dsimp only at h1;omega
    have CC:=Hz (zyi (c:=gc) (Reads.later hg2 bw) (fun d hd=>(hg3 d hd).2.1.later bw) hgl (by omega));have HG3:=Hz hg3;have HTK:=Hz htk;have HFL:=Hz hfl;clear hg1 hg2 hg3 hPl hfl hfl2 htk hle hfew hgP hgm hgl;go_wp2_with fail
    refine CC.out.mono ?_;rintro e w5 ⟨A5,c5,rfl,o5,b5⟩;have bw5:=New.trans bw b5;have R5:=Reads.of_own o5;have OP5:=OP.out.later b5;have hbl:=zgb P;have hbs:=bw5.size;clear CC o5 bw b5 OP
    go_wp2_with (refine zek qhy rfl (.tmp 28) (.tmp 30) rfl (W:=w4) (B:=w4.heap.size) (news:=recs zja (zc1 gl)) OP5 R5 rfl rfl bw5 (Nat.le_refl _) hbs (zpm _) (by rw[hbl];omega) (by rw[hbl];simp only[maxLen];omega) ?_
                 intro A6 c6 w6 _ _ o6 _ b6 _;rw[hbl,<-zas] at o6;clear OP5 R5 bw5)
    have O6:=Hz o6;have HP6:=Hz (show(P++zc1 gl).map byP=(CG.take (k+1)).flatten.flatten by rw[List.map_append,HP.out,HFL.out,HTK.out,List.flatten_append,List.flatten_append,List.flatten_cons,List.flatten_nil,List.append_nil])
    have HPI6:Hid (∀d∈P++zc1 gl,PieceIn w4 d):=Hz (by
     intro d hd;rcases List.mem_append.1 hd with hd|hd
     ·exact HPI.out d hd
     ·obtain⟨x,hx,hd⟩:=List.mem_flatMap.1 hd
      exact(HG3.out x hx).2.2 d hd)
    have hl6:(P++zc1 gl).length=P.length+(zc1 gl).length:=List.length_append;rw[<-hl6] at O6⊢;generalize P++zc1 gl=P6 at*;clear hl6 o6 HP HPI HG3 HFL HTK;go_roundw
    case rel=>exact⟨k+1,A6,c6,P6,by omega,by go_num,rfl,O6,HP6,HPI6,b6⟩
    case measure=>simp[intOf];omega
   ·obtain rfl:k=XR.length:=by omega
    have hP:=HP.out;rw[List.take_of_length_le (by rw[<-HXL.out];exact Nat.le_refl _)] at hP;have hPl:=congrArg List.length hP;rw[List.length_map] at hPl;have hfew:=HFew.out;have hoP:=OP.out;unfold Go.Hm.Own at hoP;rw[zgb] at hoP;have PG:PgsIn wr A2 c2 P:=by
     obtain⟨_,_,e,q1,_⟩:=zcl hoP;injection e with _ _ e;refine⟨Reads.of_own hoP,by omega,fun d hd=>?_⟩;have hm:byP d∈CG.flatten.flatten:=by rw[<-hP];exact List.mem_map.2 ⟨d,hd,rfl⟩
     obtain⟨h1,h2⟩:=HMEM.out _ hm;refine⟨(HPI.out d hd).1.later bw,fun x hx=>H8.out x (List.mem_of_mem_drop (h1 x hx)),?_⟩;have:=HB.out.1;rw[List.length_drop] at h2;unfold byP at h2;omega
    have TB:=Hz (TA.out wr (New.trans b14.out bw) A2 c2 P PG (by omega));have BZ:=HZ4.out.below bw HZ4.out.lt;have hx:=HX.out;rw[<-hP] at hx;have HX:=Hz hx;have bw':=Hz (New.trans b04.out bw);have hzz:=Hz (show w.heap.size<wr.heap.size from BZ.lt);obtain⟨x0,x1,x2⟩:=zad (HF4.out.below bw HF4.out.lt);clear hP hPl hfew hoP PG HP HPI OP bw hx;go_wp2_with fail
    refine TB.out.mono ?_;rintro e w7 hq;clear TB x0 x1 x2;have hmain:∀(er:Int) (L':List za1) (r':Int) (C:List (List zab)),TabPost er L' r' C wr e w7-> ∃(Ac' Ad:Option Addr) (cc' cd:Nat) (D:List zdw),e= .returned (.tuple #[.agg #[.slice Ac' L'.length cc',.int .i64 r',.slice Ad D.length cd],.int .i64 er])/\New wr w7/\ ∀w8,w7.grownBy w8 (some w.heap.size)-> ∀e',e'= .returned (.tuple #[.agg #[.slice Ac' L'.length cc',.int .i64 r',.slice Ad D.length cd],.int .i64 er])->TabPost er L' r' C w e' w8:=by
     intro er L' r' C hq;obtain⟨Ac',Ad,cc',cd,D,he,h1,h2,h3,h4,h5⟩:=hq;refine⟨Ac',Ad,cc',cd,D,he,h5,fun w8 g8 e' he'=>?_⟩;have hne:∀{e:TypeId} {sz:Nat} {v:Value} {n:Nat} {xs:List Value},w7.ownsRow wr.heap.size e sz v n xs->v.ownBlock=none\/v.ownBlock≠some w.heap.size:=fun h=> .inr (fun e=>by have:=(World.ownsRow.lt h _ e).1;have:=hzz.out;omega)
     have hle:=Nat.le_of_lt hzz.out;exact⟨Ac',Ad,cc',cd,D,he',zbg (World.ownsRow.kept h1 g8 (hne h1)) hle,zbg (World.ownsRow.kept h2 g8 (hne h2)) hle,(fun d hd=>zbg (World.ownsRow.kept (h3 d hd) g8 (hne (h3 d hd))) hle),h4,zay (New.trans bw'.out h5) g8 (Nat.le_refl _) (Nat.le_refl _)⟩
    have hfin:∃(er:Int) (L':List za1) (r':Int) (C:List (List zab)),TabPost er L' r' C wr e w7/\ ∀w8 e',TabPost er L' r' C w e' w8->qhz X w e' w8:=by
     have hx:=HX.out;cases ht:qc1 (za3 L r G) (P.map byP) with
     |none=>
      rw[ht] at hq hx;rw[hx];exact⟨2,[],0,[],hq,fun _ _ h=>h⟩
     |some C=>
      rw[ht] at hq hx;rw[hx];exact⟨0,L,r,C,hq,fun _ _ h=>h⟩
    obtain⟨er,L',r',C,hq1,hq2⟩:=hfin;obtain⟨Ac',Ad,cc',cd,D,rfl,b7,hm⟩:=hmain er L' r' C hq1;have BZ7:=BZ.below b7 BZ.lt;have HM:=Hz hm;have HQ2:=Hz hq2;clear hq hmain hq1 hq2 hm HX
    go_wp2_with (refine zah rfl 25 (.tmp 2) (.tmp 36) rfl w.heap.size _ rfl rfl BZ7 (by kernel_rfl) rfl (by simp[Value.oneCell']) ?_
                 intro W8 BR G8;obtain⟨r0,r1,r2⟩:=zad BR)
    exact bodyPost_ret (v:= .tuple #[.agg #[.slice Ac' L'.length cc',.int .i64 r',.slice Ad D.length cd],.int .i64 er]) (by simp[results,Tryz.results15,go_sem,r0,r1,r2]) rfl (HQ2.out _ _ (HM.out _ G8 _ rfl))
open Go.RowKit Go.Hm
section
variable{L:List za1}{E:List Int}{D:List (List zab)}{pr:Int}
def pgF(L:List za1)(E:List Int)(D:List (List zab))(c:Nat)(q:Int × Int):List Nat:=(zgo L E D c q).2
def znk(L:List za1)(E:List Int)(D:List (List zab))(l:List (Int × Int))(cs:List Nat):List (List (List Nat)):=cs.map fun c=>l.map (pgF L E D c)
def zjk(L:List za1)(E:List Int)(D:List (List zab))(pr:Int)(l:List (Int × Int)):List (List (List (List Nat))):=l.map fun s=>znk L E D (zcq s.1 s.2 pr) (List.range L.length)
theorem z09{c:Nat}:∀(l:List (Int × Int)) {y x:List (List Nat) × Int},chW L E D c (some y) l=some x->x.1=y.1++l.map (pgF L E D c)/\ ∀q∈l,(zgo L E D c q).1=0
 | [],y,x,h=>by
   injection h with h;subst h;simp
 |q::l,y,x,h=>by
  have e:chW L E D c (some y) (q::l)=chW L E D c (pgW L E D c (some y) q) l:=rfl;rw[e] at h;cases hp:pgW L E D c (some y) q with
  |none=>rw[hp,zi9] at h;cases h
  |some z=>
   rw[hp] at h;obtain⟨h1,h2⟩:=z09 l h;unfold pgW at hp;dsimp only at hp;split at hp
   ·rename_i hc
    injection hp with hp;subst hp;refine⟨by rw[h1];simp[pgF],fun q' hq'=>?_⟩;rcases List.mem_cons.1 hq' with rfl|hq'
    ·exact hc.1
    ·exact h2 _ hq'
   ·cases hp
theorem z1a{s:Int × Int}:∀(k:Nat) {y x:List (List Nat) × Int},gpW L E D pr s (some y) k=some x->x.1=y.1++(znk L E D (zcq s.1 s.2 pr) (List.range k)).flatten/\ ∀c,c<k-> ∀q∈zcq s.1 s.2 pr,(zgo L E D c q).1=0
 |0,y,x,h=>by
  injection h with h;subst h;simp[znk]
 |k+1,y,x,h=>by
  rw[gpW] at h;cases hp:gpW L E D pr s (some y) k with
  |none=>rw[hp,zi9] at h;cases h
  |some z=>
   rw[hp] at h;obtain⟨h1,h2⟩:=z09 _ h;obtain⟨h3,h4⟩:=z1a k hp;refine⟨by rw[h1,h3,List.range_succ];simp[znk],fun c hc q hq=>?_⟩;rcases Nat.lt_or_ge c k with h5|h5
   ·exact h4 c h5 q hq
   ·obtain rfl:c=k:=by omega
    exact h2 q hq
theorem zwf:∀(l:List (Int × Int)) {y x:List (List Nat) × Int},l.foldl (grW L E D pr) (some y)=some x->x.1=y.1++(zjk L E D pr l).flatten.flatten/\ ∀s∈l,∀c,c<L.length-> ∀q∈zcq s.1 s.2 pr,(zgo L E D c q).1=0
 | [],y,x,h=>by
   injection h with h;subst h;simp[zjk]
 |s::l,y,x,h=>by
  rw[List.foldl_cons] at h;cases hp:grW L E D pr (some y) s with
  |none=>rw[hp,zpj] at h;cases h
  |some z=>
   rw[hp] at h;obtain⟨h1,h2⟩:=zwf l h;obtain⟨h3,h4⟩:=z1a _ hp;refine⟨by rw[h1,h3];simp[zjk],fun s' hs'=>?_⟩;rcases List.mem_cons.1 hs' with rfl|hs'
   ·exact h4
   ·exact h2 _ hs'
theorem qea(c:Nat):∀(l:List (Int × Int)) (r:List Nat),z2s (l.map (zbw L E D c)) ((l.map (pgF L E D c)).flatten++r)=l.map (pgF L E D c)/\(l.map (pgF L E D c)).flatten.length=szL (l.map (zbw L E D c))
 | [],r=>⟨rfl,rfl⟩
 |q::l,r=>by
  obtain⟨h1,h2⟩:=qea c l r;have e:(zbw L E D c q).1.toNat=(pgF L E D c q).length:=by unfold zbw pgF;simp
  rw[List.map_cons,List.map_cons,z2s,List.flatten_cons,List.append_assoc,e,List.take_left,List.drop_left,h1,zm7,e,List.length_append,h2];exact⟨rfl,rfl⟩
theorem qeb(l:List (Int × Int)):∀(cs:List Nat) (r:List Nat),zcm (cs.map fun c=>l.map (zbw L E D c)) ((znk L E D l cs).flatten.flatten++r)=znk L E D l cs/\(znk L E D l cs).flatten.flatten.length=szC (cs.map fun c=>l.map (zbw L E D c))
 | [],r=>⟨rfl,rfl⟩
 |c::cs,r=>by
  obtain⟨h1,h2⟩:=qeb l cs r;obtain⟨h3,h4⟩:=qea (L:=L) (E:=E) (D:=D) c l ((znk L E D l cs).flatten.flatten++r);have e:znk L E D l (c::cs)=l.map (pgF L E D c)::znk L E D l cs:=rfl;rw[e,List.map_cons,zcm,List.flatten_cons,List.flatten_append,List.append_assoc,h3,<-h4,List.drop_left,h1,zm8,<-h4,List.length_append,h2];exact⟨rfl,rfl⟩
theorem z84:∀(l:List (Int × Int)) (r:List Nat),zh7 (l.map (zb7 L E D pr)) ((zjk L E D pr l).flatten.flatten.flatten++r)=zjk L E D pr l/\(zjk L E D pr l).flatten.flatten.flatten.length=szG (l.map (zb7 L E D pr))
 | [],r=>⟨rfl,rfl⟩
 |s::l,r=>by
  obtain⟨h1,h2⟩:=z84 l r;obtain⟨h3,h4⟩:=qeb (L:=L) (E:=E) (D:=D) (zcq s.1 s.2 pr) (List.range L.length) ((zjk L E D pr l).flatten.flatten.flatten++r);have e:zjk L E D pr (s::l)=znk L E D (zcq s.1 s.2 pr) (List.range L.length)::zjk L E D pr l:=rfl;have e2:(zb7 L E D pr s).2=(List.range L.length).map fun c=>(zcq s.1 s.2 pr).map (zbw L E D c):=rfl
  rw[e,List.map_cons,zh7,e2,List.flatten_cons,List.flatten_append,List.flatten_append,List.append_assoc,h3,<-h4,List.drop_left,h1,zm9,e2,<-h4,List.length_append,h2];exact⟨rfl,rfl⟩
theorem qir{c:Nat}{q:Int × Int}(hd:∀y∈zbb D c q,zai y)(h:(zgo L E D c q).1=0):SheOk (L.getD c zdo).2.1 (L.getD c zdo).2.2 (zbw L E D c q) (pgF L E D c q) (zbb D c q):=
 ⟨qga hd (show pgE _ _ _ _=(0,pgF L E D c q) from Prod.ext h rfl),rfl,rfl,zkz _ _⟩
theorem qh0{c:Nat}:∀(l:List (Int × Int)) (C:List (List zab)) (R:List (List Nat)),c<C.length->(∀q∈l,(∀y∈zbb D c q,zai y)/\(zgo L E D c q).1=0)->
 chT (L.getD c zdo) c (some (C,l.map (pgF L E D c)++R)) (l.map (zbw L E D c))=some (C.set c (C.getD c []++(l.map (zbb D c)).flatten),R)
 | [],C,R,hc,_=>by
   simp only[List.map_nil,List.flatten_nil,List.append_nil,List.nil_append];rw[ztl hc];rfl
 |q::l,C,R,hc,h=>by
  have h0:=h q (by simp);have e:chT (L.getD c zdo) c (some (C,(q::l).map (pgF L E D c)++R)) ((q::l).map (zbw L E D c))=chT (L.getD c zdo) c (pgT (L.getD c zdo) c (some (C,pgF L E D c q::(l.map (pgF L E D c)++R))) (zbw L E D c q)) (l.map (zbw L E D c)):=rfl;rw[e,qd9 (qir h0.1 h0.2),qh0 l _ R (by rw[List.length_set];exact hc) (fun q' hq'=>h q' (by simp[hq']))];rw[List.set_set,List.getD_eq_getElem?_getD (l:=List.set _ _ _),List.getElem?_set_self hc,Option.getD_some,List.append_assoc,List.map_cons,List.flatten_cons]
theorem qec(l:List (Int × Int)):∀(m j:Nat) (C:List (List zab)) (R:List (List Nat)),j+m<=C.length->(∀c,c<j+m-> ∀q∈l,(∀y∈zbb D c q,zai y)/\(zgo L E D c q).1=0)->
 ∃C',zqe L j ((List.range' j m).map fun c=>l.map (zbw L E D c)) (some (C,(znk L E D l (List.range' j m)).flatten++R))=some (C',R)/\C'.length=C.length/\ ∀i,C'.getD i []=if j<=i/\i<j+m then C.getD i []++(l.map (zbb D i)).flatten else C.getD i []
 |0,j,C,R,_,_=>⟨C,rfl,rfl,fun i=>by rw[if_neg (by omega)]⟩
 |m+1,j,C,R,hj,h=>by
  have e:znk L E D l (List.range' j (m+1))=l.map (pgF L E D j)::znk L E D l (List.range' (j+1) m):=rfl;have e2:((List.range' j (m+1)).map fun c=>l.map (zbw L E D c))=l.map (zbw L E D j)::((List.range' (j+1) m).map fun c=>l.map (zbw L E D c)):=rfl;obtain⟨C',h1,h2,h3⟩:=qec l m (j+1) (C.set j (C.getD j []++(l.map (zbb D j)).flatten)) R (by rw[List.length_set];omega) (fun c hc=>h c (by omega));refine⟨C',?_,by rw[h2,List.length_set],fun i=>?_⟩
  ·rw[e,e2,List.flatten_cons,List.append_assoc,zqe,qh0 l C _ (by omega) (h j (by omega))]
   exact h1
  ·rw[h3]
   by_cases hi:i=j
   ·subst hi
    rw[if_neg (by omega),if_pos (by omega),List.getD_eq_getElem?_getD (l:=List.set _ _ _),List.getElem?_set_self (by omega),Option.getD_some]
   ·have e3:(C.set j (C.getD j []++(l.map (zbb D j)).flatten)).getD i []=C.getD i []:=by
     rw[List.getD_eq_getElem?_getD,List.getElem?_set_ne (by omega),<-List.getD_eq_getElem?_getD]
    rw[e3];by_cases h4:j+1<=i/\i<j+1+m
    ·rw[if_pos h4,if_pos (by omega)]
    ·rw[if_neg h4,if_neg (by omega)]
theorem qh1:∀(l:List (Int × Int)) (C:List (List zab)) (R:List (List Nat)),C.length=L.length->(∀s∈l,∀c,c<L.length-> ∀q∈zcq s.1 s.2 pr,(∀y∈zbb D c q,zai y)/\(zgo L E D c q).1=0)->
 ∃C',(l.map (zb7 L E D pr)).foldl (grT L) (some (C,(zjk L E D pr l).flatten.flatten++R))=some (C',R)/\C'.length=L.length/\ ∀i,i<L.length->C'.getD i []=C.getD i []++(l.map fun s=>((zcq s.1 s.2 pr).map (zbb D i)).flatten).flatten
 | [],C,R,hC,_=>⟨C,rfl,hC,fun i _=>by simp⟩
 |s::l,C,R,hC,h=>by
  have e:zjk L E D pr (s::l)=znk L E D (zcq s.1 s.2 pr) (List.range L.length)::zjk L E D pr l:=rfl;have e2:(zb7 L E D pr s).2=(List.range L.length).map fun c=>(zcq s.1 s.2 pr).map (zbw L E D c):=rfl
  obtain⟨C1,h1,h2,h3⟩:=qec (L:=L) (E:=E) (D:=D) (zcq s.1 s.2 pr) L.length 0 C ((zjk L E D pr l).flatten.flatten++R) (by omega) (fun c hc=>h s (by simp) c (by omega));obtain⟨C',h4,h5,h6⟩:=qh1 l C1 R (by omega) (fun s' hs'=>h s' (by simp[hs']));refine⟨C',?_,h5,fun i hi=>?_⟩
  ·rw[e,List.flatten_cons,List.flatten_append,List.append_assoc,List.map_cons,List.foldl_cons]
   have e3:grT L (some (C,(znk L E D (zcq s.1 s.2 pr) (List.range L.length)).flatten++((zjk L E D pr l).flatten.flatten++R))) (zb7 L E D pr s)=some (C1,(zjk L E D pr l).flatten.flatten++R):=by unfold grT;rw[e2,List.range_eq_range'];exact h1
   rw[e3,h4]
  ·rw[h6 i hi,h3,if_pos (by omega),List.map_cons,List.flatten_cons,List.append_assoc]
end
theorem zps(l:List zab){f t s:Nat}(hs:0<s):∀k,k<=zhv f t s->(((zgl f t s).take k).map fun q=>(l.drop q.1.toNat).take (q.2-q.1).toNat).flatten=(l.drop f).take (atN f t s k-f)
 |0,_=>by simp[atN];omega
 |k+1,hk=>by
  have ih:=zps l (f:=f) (t:=t) hs k (by omega);have hk2:=(zgm (f:=f) (t:=t) hs k).1 (by omega);obtain⟨a1,a2,a3⟩:=zz5 hk2;have hle:f<=atN f t s k:=by rw[a1];omega
  rw[zoj (f:=f) (t:=t) (s:=s) (k:=k) (by omega),List.map_append,List.flatten_append,ih,a3];simp only[List.map_cons,List.map_nil,List.flatten_cons,List.flatten_nil,List.append_nil,Int.toNat_natCast];have e1:(((atN f t s (k+1):Nat):Int)-((atN f t s k:Nat):Int)).toNat=atN f t s (k+1)-atN f t s k:=by omega
  have e2:atN f t s (k+1)-f=(atN f t s k-f)+(atN f t s (k+1)-atN f t s k):=by omega
  rw[e1,e2,List.take_add,List.drop_drop];congr 3
  omega
theorem zpt(l:List zab){f t:Nat}{s:Int}(h:f<=t)(ht:t<=65536)(hs:1<=s):((zcq (f:Int) (t:Int) s).map fun q=>(l.drop q.1.toNat).take (q.2-q.1).toNat).flatten=(l.drop f).take (t-f):=by
 obtain⟨n,rfl⟩:=Int.eq_ofNat_of_zero_le (show 0<=s by omega);rcases Nat.lt_or_ge f t with hlt|hge
 ·rw[zz6 hlt ht (by omega)]
  have:=zps l (f:=f) (t:=t) (s:=n) (by omega) (zhv f t n) (Nat.le_refl _);have e:(zgl f t n).take (zhv f t n)=zgl f t n:=List.take_of_length_le (by rw[zfu];exact Nat.le_refl _);rw[e] at this;rw[this];congr 1
  have hn: ¬(f+zhv f t n*n<t):=fun q=>by have:=(zgm (f:=f) (t:=t) (s:=n) (by omega) (zhv f t n)).2 q;omega
  unfold atN;omega
 ·rw[zuu (by omega)]
  have:t-f=0:=by omega
  rw[this];simp
theorem zto{f t:Nat}{s:Int}{q:Int × Int}(h:q∈zcq (f:Int) (t:Int) s):∃a b:Nat,q=((a:Int),(b:Int))/\f<=a/\a<=b/\b<=t:=by
 unfold zcq at h;split at h
 ·cases h
 ·rename_i hc
  unfold zgl at h;obtain⟨i,hi,rfl⟩:=List.mem_map.1 h;rw[List.mem_range] at hi;have:=(zgm (f:=(f:Int).toNat) (t:=(t:Int).toNat) (s:=s.toNat) (by omega) i).1 hi;refine⟨_,_,rfl,?_,?_,?_⟩
  ·omega
  ·rw[Nat.succ_mul];omega
  ·omega
end Go.Proofs.Y
