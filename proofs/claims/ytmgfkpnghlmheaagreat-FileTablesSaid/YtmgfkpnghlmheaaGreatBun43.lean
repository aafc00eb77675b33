/- Merged. -/
import Derived.Test.YtmgfkpnghlmheaaGreatBun31
import Derived.Test.YtmgfkpnghlmheaaGreatBun42
set_option maxHeartbeats 2000000
namespace Go.Proofs.Y
open Go.RowKit Go.Hm
noncomputable def zph(b:List Nat)(F:FootS)(g c p:Int):Option (List Nat):=
 if zeb F g c p<0\/(F.groups.length:Int)<=g then none
 else if(b.length:Int)<4+zeb F g c p+((zav F.groups g.toNat c.toNat).getD p.toNat zbp).1 then none
 else some ((b.drop (4+(zeb F g c p).toNat)).take ((zav F.groups g.toNat c.toNat).getD p.toNat zbp).1.toNat)
theorem z7f{F:FootS}{g c p:Int}(h:0<=zeb F g c p)(hg:g<(F.groups.length:Int)):
 zbj F/\ ∃gk ck pk:Nat,g=(gk:Int)/\c=(ck:Int)/\p=(pk:Int)/\gk<F.groups.length/\ck<F.cols.length/\pk<(zav F.groups gk ck).length:=by
 unfold zeb at h;split at h
 ·rename_i hc
  rw[Bool.and_eq_true,Bool.or_eq_true,Bool.and_eq_true] at hc;obtain⟨h1,h2⟩:=hc;have hok:zbj F:=by unfold zdl at h1;simpa using h1
  rcases h2 with h2|⟨h2,h3⟩
  ·unfold z6v at h2
   simp only[decide_eq_true_eq] at h2;omega
  ·obtain⟨gk,ck,rfl,rfl,h4,h5⟩:=z6u h2
   unfold pgB at h3;simp only[decide_eq_true_eq,Int.toNat_natCast] at h3;exact⟨hok,gk,ck,p.toNat,rfl,rfl,by omega,h4,h5,by omega⟩
 ·omega
theorem zz4{F:FootS}(h:zbj F){gk ck pk:Nat}(h1:gk<F.groups.length)(h2:ck<F.cols.length)(h3:pk<(zav F.groups gk ck).length):zeb F (gk:Int) (ck:Int) (pk:Int)=zcv F.groups gk ck pk:=by
 unfold zeb;have e:zdl F=true:=by unfold zdl;simpa using h
 have e1:inB F.cols.length F.groups.length (gk:Int) (ck:Int)=true:=by unfold inB;simp;omega
 have e2:pgB (zav F.groups gk ck).length (pk:Int)=true:=by unfold pgB;simp;omega
 simp only[e,e1,Int.toNat_natCast,e2,Bool.true_and,Bool.or_true,if_true]
def qb5(o:Option (List Nat))(w:World)(e:Ending)(w':World):Prop:=
 New w w'/\match o with
 |none=>e= .returned (.tuple #[.slice none 0 0,.bool false])
 |some x=>∃A n c,e= .returned (.tuple #[.slice A n c,.bool true])/\Go.Hm.Own w' w.heap.size 5 (.slice A n c) (za3 .u8 x)
set_option maxRecDepth 100000 in
theorem zz5{w:World}{A:Option Addr}{cb:Nat}{b:List Nat}{Ac:Option Addr}{cc:Nat}{L:List za2}{r:Int}{Ag:Option Addr}{cg:Nat}{G:List GrD}{g c p:Int}
 (hb:Reads w w.heap.size 1 A b.length (za3 .u8 b))(hbc:b.length<=cb)
 (h:FootIn w Ac cc L Ag G)(hp:∀g∈G,∀x∈g.2.2.2,∀p∈x.2.2,zdk p.2.2):
 Calls Tryz.prog 24 #[.slice A b.length cb,zh9 Ac cc L r Ag cg G,.int .i64 g,.int .i64 c,.int .i64 p] w (qb5 (zph b (za5 L r G) g c p) w):=by
 have b0:New w (w.alloc (.cells #[.slice Ac L.length cc,.int .i64 r,.slice Ag G.length cg] 38)):=(Below.refl _ _).alloc (Nat.le_refl _) _;have B0:=Blk.new w 38 #[.slice Ac L.length cc,.int .i64 r,.slice Ag G.length cg];have PL:=Hz (fun(W:World) (hW:New w W)=>zvd (r:=r) (cc:=cc) (cg:=cg) (g:=g) (c:=c) (p:=p) (h.later hW) hp);have hy:= @z7f (za5 L r G) g c p;have hgl:(za5 L r G).groups.length=G.length:=by unfold za5;simp
 obtain⟨X,hX⟩:∃X,X=zph b (za5 L r G) g c p:=⟨_,rfl⟩;rw[<-hX];unfold zph at hX;rw[hgl] at hX hy;generalize hV:zeb (za5 L r G) g c p=V at*;unfold zh9 at PL⊢;obtain⟨x0,x1,x2⟩:=zaf B0;replace hX:=Hz hX;replace hy:=Hz hy;replace hV:=Hz hV;have HF:=Hz h;have HR:=Hz hb;clear h hb hp;go_enter Tryz.func24,Tryz.ntmps24
 go_wp2_with fail
 refine(PL.out _ b0).mono ?_;rintro e w1 ⟨rfl,b1⟩;have b01:=New.trans b0 b1;have B1:=B0.below b1 B0.lt;clear PL x0 x1 x2 B0 b0 b1;obtain⟨x0,x1,x2⟩:=zaf B1;by_cases hlt:V<0
 ·have hN:X=none:=by rw[hX.out,if_pos (.inl hlt)]
  subst hN;clear hX hy hV HF HR hgl;go_wp2_with fail
  go_ret2
  exact⟨b01,rfl⟩
 ·by_cases hg:(G.length:Int)<=g
  ·have hN:X=none:=by rw[hX.out,if_pos (.inr hg)]
   subst hN;have hlt2:0<=V:=by omega
   clear hX hy hV HF HR hlt hgl;go_wp2_with fail
   go_ret2
   exact⟨b01,rfl⟩
  ·have hx:=hX.out
   rw[if_neg (by omega)] at hx;obtain⟨hok,gk,ck,pk,rfl,rfl,rfl,h1,h2,h3⟩:=hy.out (by omega) (by omega);have hv0:=hV.out;rw[zz4 hok (by rw[hgl];exact h1) h2 h3] at hv0;have hv:=zj8 hok (by rw[hgl];exact h1) h2 h3;rw[hv0] at hv;have hcl:(G.getD gk grZ).2.2.2.length=L.length:=by have:=(zco hok (k:=gk) (by rw[hgl];exact h1)).2.1;unfold za5 at this;dsimp only at this;rw[zba grP G grZ zak h1] at this;unfold grP at this;simpa using this
   have h2:ck<L.length:=h2;have hpa:zav (za5 L r G).groups gk ck=((G.getD gk grZ).2.2.2.getD ck chZ).2.2:=by unfold zav za5;dsimp only;rw[zba grP G grZ zak h1];exact zba (fun x:ChD=>x.2.2) (G.getD gk grZ).2.2.2 chZ [] (by omega)
   simp only[Int.toNat_natCast] at hx;rw[hpa] at hx h3 hv;have FI:=HF.out.later b01;have RB:=Reads.later HR.out b01;have hgm:G.getD gk grZ∈G:=zan grZ h1;obtain⟨rch,_⟩:=FI.chunks _ hgm;have hcm:(G.getD gk grZ).2.2.2.getD ck chZ∈(G.getD gk grZ).2.2.2:=zan chZ (by omega);obtain⟨rpg,_⟩:=FI.pages _ hgm _ hcm;obtain⟨ag,rfl,_,g0,g1⟩:=FI.groups.gr2 h1;have hl5:=FI.few2;generalize G.getD gk grZ=gd at*;obtain⟨gr,Ach,cch,D⟩:=gd;dsimp only at rch hcl hcm rpg g0 g1 hx hv h3;obtain⟨ac,rfl,_,d0⟩:=rch.ch1 (i:=ck) (by omega);generalize D.getD ck chZ=cd at*;obtain⟨Ap,cp,P⟩:=cd;dsimp only at rpg d0 hx hv h3;obtain⟨ap,rfl,_,p0,_⟩:=rpg.page14 h3;have hpl:P.length<=4611686018427387903:=by omega
   generalize(P.getD pk zbp).1=sz at*;obtain⟨vn,rfl⟩:=Int.eq_ofNat_of_zero_le (show 0<=V by omega);obtain⟨sn,rfl⟩:=Int.eq_ofNat_of_zero_le (show 0<=sz by omega);have k1:vn+sn<=1073741824:=by have:=hv.2.1;have:=hv.2.2.1;omega
   simp only[Int.toNat_natCast] at hx;have HX:=Hz hx;have HCM:=Hz hcm;have hck:ck<D.length:=by omega
   have hcd:D.length<=4611686018427387903:=by have:=FI.few;omega
   have j1:(0:Int)<=(vn:Int):=by omega
   have j2:(gk:Int)<(G.length:Int):=by omega
   have j3:(ck:Int)<(D.length:Int):=by omega
   have j4:(pk:Int)<(P.length:Int):=by omega
   have j5:(vn:Int)+(sn:Int)<=1073741824:=by omega
   replace RB:=Hz RB;clear hX hy hV HF HR hgl hv hv0 hok hpa hx hcm FI rch rpg hgm hcl;by_cases hs:(b.length:Int)<4+(vn:Int)+(sn:Int)
   ·have hN:X=none:=by rw[HX.out,if_pos hs]
    subst hN;have B01:=Hz b01;clear hlt hg RB HX HCM h1 h2 h3 hbc hpl hck hcd k1 hl5 b01;go_wp2_with fail
    go_ret2
    exact⟨B01.out,rfl⟩
   ·have hN:X=some ((b.drop (4+vn)).take sn):=by rw[HX.out,if_neg hs]
    subst hN;have hs2:4+(vn:Int)+(sn:Int)<=(b.length:Int):=by omega
    have S1:(Instr.sliceAt 31 (.slice A b.length cb) (some (.int .i64 (4+(vn:Int)))) (some (.int .i64 (4+(vn:Int)+(sn:Int)))) none).run Tryz.prog w1= .ok (.slice (if cb=4+vn then A else A.map (·.add ((4+vn)*1))) sn (cb-(4+vn))) w1:=by have:=zg8 zu3 zu4 A b.length cb (4+vn) (4+vn+sn) (by omega) (by omega) w1;rwa[show((4+vn:Nat):Int)=4+(vn:Int) by omega,show((4+vn+sn:Nat):Int)=4+(vn:Int)+(sn:Int) by omega,show 4+vn+sn-(4+vn)=sn by omega] at this
    have R1:Reads w1 w1.heap.size 1 (if cb=4+vn then A else A.map (·.add ((4+vn)*1))) sn (za3 .u8 ((b.drop (4+vn)).take sn)):=by have:=(RB.out.cut (k:=4+vn) (cap:=cb) (by omega) hbc).take (k:=sn) (by omega);simpa only[Nat.mul_one,zey,zfp] using this
    have CL:=Hz (zgu (c:=cb-(4+vn)) R1 (by omega));generalize(if cb=4+vn then A else A.map (·.add ((4+vn)*1)))=A2 at*;generalize cb-(4+vn)=c2 at*;have B01:=Hz b01;clear hlt hg RB HX HCM h1 h2 h3 hbc hpl hck hcd k1 hl5 b01 R1 hs;go_wp2_with fail
    refine CL.out.mono ?_;rintro e w2 ⟨A3,n3,c3,rfl,o3,b2⟩;clear CL S1;go_wp2_with fail
    go_ret2
    exact⟨New.trans B01.out b2,A3,n3,c3,rfl,o3.base_le B01.out.size⟩
open Go.RowKit Go.Hm
theorem zti{b:List Nat}{n:Int}(h8:∀x∈b,x<256):∃o,IsDel b n o:=by
 by_cases h:n<0\/65536<n
 ·exact⟨none,zt8 h⟩
 ·obtain⟨m,rfl⟩:=Int.eq_ofNat_of_zero_le (show 0<=n by omega)
  exact⟨_,zy0 h8⟩
theorem qcu{t n:Int}{b:List Nat}(h8:∀x∈b,x<256)(hb:b.length<=140737488355200)(hn:n<=9223372036854775807):∃o,IsDic t b n o:=by
 have hok:St.ok (some b):=St.ok_some h8;obtain⟨cnt,S1,k1⟩:∃cnt S1,lenS n (some b)=(cnt,S1):=⟨_,_,rfl⟩;have hok1:S1.ok:=by have:=za6 (m:=n) hok;rwa[k1] at this
 obtain⟨sz,S2,k2⟩:∃sz S2,lenS ((S1.getD []).length:Int) S1=(sz,S2):=⟨_,_,rfl⟩;have hok2:S2.ok:=by have:=za6 (m:=((S1.getD []).length:Int)) hok1;rwa[k2] at this
 obtain⟨x,S3,k3⟩:∃x S3,zbt (sz:Int) S2=(x,S3):=⟨_,_,rfl⟩;have htk:=zcq (n:=(sz:Int)) hok2;rw[k3] at htk;obtain⟨y,S4,k4⟩:∃y S4,zbt ((S3.getD []).length:Int) S3=(y,S4):=⟨_,_,rfl⟩;obtain⟨o1,hp⟩:=zxh (t:=t) (n:=(cnt:Int)) htk.2;obtain⟨o2,hd⟩:=zk9 (b:=y) (n:=n);exact⟨_,zzb h8 hb hn k1 k2 k3 hp k4 hd⟩
theorem z0f{t e:Int}{b:List Nat}{n:Int}(hf:fitsV t e=true)(h8:∀x∈b,x<256)(hb:b.length<=140737488355200)(hn:n<=9223372036854775807):∃o,IsVal t e b n o:=by
 unfold fitsV at hf;have hf:=of_decide_eq_true hf;rcases hf with⟨rfl|rfl,_⟩|⟨rfl,ht⟩|⟨rfl,rfl|rfl⟩|⟨rfl,rfl⟩
 ·obtain⟨o,ho⟩:=zxh (t:=t) (n:=n) h8
  exact⟨o,zou ho⟩
 ·obtain⟨o,ho⟩:=qcu (t:=t) h8 hb hn
  exact⟨o,zq5 ho⟩
 ·obtain⟨o,ho⟩:=zk9 (b:=b) (n:=n)
  exact⟨_,zq6 ht ho⟩
 ·obtain⟨o,ho⟩:=zti (n:=n) h8
  exact⟨_,zq7 ho⟩
 ·have hok:St.ok (some b):=St.ok_some h8
  obtain⟨sz,S1,k1⟩:∃sz S1,lenS (b.length:Int) (some b)=(sz,S1):=⟨_,_,rfl⟩;have hok1:S1.ok:=by have:=za6 (m:=(b.length:Int)) hok;rwa[k1] at this
  obtain⟨x,S2,k2⟩:∃x S2,zbt (sz:Int) S1=(x,S2):=⟨_,_,rfl⟩;have htk:=zcq (n:=(sz:Int)) hok1;rw[k2] at htk;obtain⟨ox,hx⟩:=zti (n:=n) htk.2;have hy8:∀z∈S2.getD [],z<256:=fun z hz=>by
   cases hS:S2 with
   |none=>rw[hS] at hz;cases hz
   |some r=>exact htk.1 r hS z (by rw[hS] at hz;exact hz)
  obtain⟨oy,hy⟩:=zti (n:=n) hy8;exact⟨_,zuz h8 hb k1 k2 rfl hx hy⟩
 ·exact⟨_,zq8 h8⟩
theorem St.ok_get{S:St}(h:S.ok):∀z∈S.getD [],z<256:=fun z hz=>by
 cases hS:S with
 |none=>rw[hS] at hz;cases hz
 |some r=>exact h r hS z (by rw[hS] at hz;exact hz)
theorem qga{t:Int}{nu:Bool}{b:List Nat}(h8:∀x∈b,x<256)(hb:b.length<=140737488351232):∃o,IsPg t nu b o:=by
 have hok:St.ok (some b):=St.ok_some h8;obtain⟨e,S1,k1⟩:∃e S1,zbc (some b)=(e,S1):=⟨_,_,rfl⟩;have hok1:S1.ok:=by have:=zna hok;rwa[k1] at this
 have hs1:(S1.getD []).length<=b.length:=by have:=zn4 (S:=some b);rwa[k1] at this
 obtain⟨n,S2,k2⟩:∃n S2,lenS 65536 S1=(n,S2):=⟨_,_,rfl⟩;have hok2:S2.ok:=by have:=za6 (m:=65536) hok1;rwa[k2] at this
 have hs2:(S2.getD []).length<=(S1.getD []).length:=by have:=zc5 (m:=65536) hok1;rwa[k2] at this
 have hn:(n:Int)<=65536:=by have:=zb1 (m:=65536) S1 (by omega) hok1;rwa[k2] at this
 cases nu with
 |false=>
  have hv:∃ov,fitsV t (e:Int)=true->IsVal t (e:Int) (S2.getD []) (n:Int) ov:=by
   by_cases hf:fitsV t (e:Int)=true
   ·obtain⟨o,ho⟩:=z0f (n:=(n:Int)) hf (St.ok_get hok2) (by omega) (by omega)
    exact⟨o,fun _=>ho⟩
   ·exact⟨none,fun h=>absurd h hf⟩
  obtain⟨ov,hv⟩:=hv;exact⟨_,zk1 h8 k1 k2 rfl hv⟩
 |true=>
  obtain⟨bits,S3,k4⟩:∃bits S3,zbt (((n+7)/8:Nat):Int) S2=(bits,S3):=⟨_,_,rfl⟩;have htk:=zcq (n:=(((n+7)/8:Nat):Int)) hok2;rw[k4] at htk;dsimp only at htk;have hs3:(S3.getD []).length<=(S2.getD []).length:=by have:=zg3 (n:=(((n+7)/8:Nat):Int)) S2;rwa[k4] at this
  have hcn:=(z0a (n:=(n:Int)) htk.2).2;have hv:∃ov,fitsV t (e:Int)=true->IsVal t (e:Int) (S3.getD []) (zp8 (zbf bits 1 (n:Int))) ov:=by
   by_cases hf:fitsV t (e:Int)=true
   ·obtain⟨o,ho⟩:=z0f (n:=zp8 (zbf bits 1 (n:Int))) hf (St.ok_get htk.1) (by omega) (by omega)
    exact⟨o,fun _=>ho⟩
   ·exact⟨none,fun h=>absurd h hf⟩
  obtain⟨ov,hv⟩:=hv;exact⟨_,zzv h8 k1 k2 k4 rfl hv⟩
theorem qgb{t:Int}{nu:Bool}{e:Int}{l:List zab}{b:List Nat}(hd:∀c∈l,zai c)(h:pgE t nu e l=(0,b)):IsPg t nu b (some l):=by obtain⟨o,ho⟩:=qga (t:=t) (nu:=nu) (qd6 hd h) (by have:=zth hd h;omega);have:=ho.compl l hd ⟨_,(zg7 h).2.2.2.1,qbt h⟩;rwa[this] at ho
open Go.RowKit Go.Hm
noncomputable def zlg(F:FootS)(b:List Nat):List (List Nat):=(zir F.groups (b.drop 4)).flatten.flatten
noncomputable def readO(b:List Nat):Option (FootS × List (List zab)):=
 match openO b with
 |none=>none
 |some x=>match z0g x.1 (zlg x.1 b) with
  |none=>none
  |some C=>some (x.1,C)
def qhx(X:Option (FootS × List (List zab)))(w:World)(e:Ending)(w':World):Prop:=
 match X with
 |none=>TabPost 2 [] 0 [] w e w'
 |some x=>TabPost 0 x.1.cols x.1.rows x.2 w e w'
def zjg(b:List Nat)(w:World)(e:Ending)(w':World):Prop:=qhx (readO b) w e w'
theorem zm0{α:Type}{p:List α}:∀{L:List (List α)},p∈L->p.length<=L.flatten.length
 | [],h=>by cases h
 |q::L,h=>by
  rw[List.flatten_cons,List.length_append];rcases List.mem_cons.1 h with rfl|h
  ·omega
  ·have:=zm0 h
   omega
theorem z0o{G:List za4}{x p:List Nat}(h:p∈(zir G x).flatten.flatten):(∀y∈p,y∈x)/\p.length<=x.length:=by
 have e:=zvg G x;refine⟨fun y hy=>?_,?_⟩
 ·have:y∈(zir G x).flatten.flatten.flatten:=List.mem_flatten.2 ⟨p,h,hy⟩
  rw[e] at this;exact List.mem_of_mem_take this
 ·have h1:p.length<=(zir G x).flatten.flatten.flatten.length:=zm0 h
  rw[e,List.length_take] at h1;omega
theorem z0p{n:Nat}:∀{C:List (List zay)},(∀l∈C,l.length<=n)->C.flatten.length<=C.length*n
 | [],_=>by simp
 |l::C,h=>by
  have h1:=h l (by simp);have h2:=z0p (C:=C) fun q hq=>h q (by simp[hq])
  rw[List.flatten_cons,List.length_append,List.length_cons,Nat.succ_mul];omega
theorem z0q{cols:List za2}(hc:cols.length<=64):∀{G:List za4} (x:List Nat),(∀g∈G,GroupOk cols g)->((zir G x).flatten.flatten.length:Int)<=64*(G.map (·.1)).sum
 | [],x,_=>by simp[zir]
 |g::G,x,h=>by
  obtain⟨h1,h2,h3⟩:=h g (by simp);have ih:=z0q hc (G:=G) (x.drop (szC g.2)) fun q hq=>h q (by simp[hq])
  obtain⟨n,hn⟩:=Int.eq_ofNat_of_zero_le (show 0<=g.1 by omega);have h4:∀l∈g.2,l.length<=n:=fun l hl=>by obtain⟨i,hi,rfl⟩:=List.getElem_of_mem hl;obtain⟨a,b⟩:=h3 i (by omega);rw[List.getD_eq_getElem?_getD,List.getElem?_eq_getElem hi] at a b;have a2:=ze5 a;simp only[Option.getD_some] at a2 b;omega
  have h5:=z0p h4;have h6:g.2.length*n<=64*n:=Nat.mul_le_mul_right _ (by omega);rw[zir,List.flatten_cons,List.flatten_append,List.length_append,zk5,List.map_cons,List.sum_cons,hn];omega
theorem zr2{F:FootS}(h:zbj F)(b:List Nat):(zlg F b).length<=4194304:=by have h1:=z0q h.1.1 (b.drop 4) h.2.1;have h2:=h.2.2.1;have h3:=h.2.2.2.1;unfold zlg;omega
theorem zwb{α:Type}(l:List (List (List α)))(k:Nat):((l.take k).flatten.flatten).length<=l.flatten.flatten.length:=by
 conv=>rhs;rw[<-List.take_append_drop k l,List.flatten_append,List.flatten_append,List.length_append]
 omega
theorem qc7(D:List zff):(zc1 D).map byP=(D.map rwP).flatten:=by
 induction D with
 |nil=>rfl
 |cons d D ih=>
  have e:zc1 (d::D)=d.2.2++zc1 D:=by simp[zc1]
  rw[e,List.map_append,ih,List.map_cons,List.flatten_cons];rfl
set_option maxRecDepth 100000 in
theorem zlh{w:World}{A:Option Addr}{c:Nat}{b:List Nat}(h:Reads w w.heap.size 1 A b.length (za3 .u8 b))(h8:∀x∈b,x<256)(hb:b.length<=140737488351232)(hc:b.length<=c)(hc2:c<=9223372036854775807):
 Calls Tryz.prog 15 #[.slice A b.length c] w (zjg b w):=by
 obtain⟨W,hW⟩:∃W,W=w.alloc (.cells #[.slice none 0 0,.int .i64 0,.slice none 0 0] 25):=⟨_,rfl⟩;have n1:New w W:=by rw[hW];exact(Below.refl _ _).alloc (Nat.le_refl _) _
 have BZ:Blk W w.heap.size 25 #[.slice none 0 0,.int .i64 0,.slice none 0 0]:=by rw[hW];exact Blk.new _ _ _
 have O:=Hz (ztc (c:=c) (Reads.later h n1) h8 hb hc hc2);have HIS:=Hz (fun F s ho=>znt (F:=F) (s:=s) h8 hb ho);have HR:=Hz (Reads.later h n1);have HO:Hid (readO b=match openO b with
  |none=>none
  |some x=>match z0g x.1 (zlg x.1 b) with
   |none=>none
   |some C=>some (x.1,C)):=Hz rfl
 unfold zjg;generalize readO b=X at*;have H8:=Hz h8;have HB:=Hz (And.intro hb (And.intro hc hc2));rw[hW] at O;have HW:=Hz hW;have HZ:=Hz BZ;clear h h8 hW BZ hb hc hc2;go_enter Tryz.func15,Tryz.ntmps15
 go_wp2_with fail
 refine O.out.mono ?_;rintro e W1 ⟨b1,hpost⟩;rw[<-HW.out] at b1;have b01:=New.trans n1 b1;have BZ1:=HZ.out.below b1 HZ.out.lt;clear O n1;cases ho:openO b with
 |none=>
  rw[ho] at hpost;obtain rfl:=hpost;have hx:X=none:=by rw[HO.out,ho]
  subst hx;clear ho HIS
  go_upto_region 2 with(refine zah rfl 38 (.tmp 4) (.tmp 13) rfl W1.heap.size _ rfl rfl (Blk.new W1 38 #[.slice none 0 0,.int .i64 0,.slice none 0 0]) (by kernel_rfl) rfl (by simp[Value.oneCell']) ?_
                        intro W2 BF G2;have b2:New W1 W2:=zax ((Below.refl _ _).alloc (Nat.le_refl _) _) G2 (Nat.le_refl _) (Nat.le_refl _);have BZ2:=BZ1.below b2 BZ1.lt;clear BF G2 BZ1)
  go_wp2_with (refine zah rfl 25 (.tmp 2) (.tmp 18) rfl w.heap.size _ rfl rfl BZ2 (by kernel_rfl) rfl (by simp[Value.oneCell']) ?_
               intro W3 BR G3;obtain⟨r0,r1,r2⟩:=zaf BR)
  exact bodyPost_ret (v:= .tuple #[.agg #[.slice none 0 0,.int .i64 0,.slice none 0 0],.int .i64 2]) (by simp[results,Tryz.results15,go_sem,r0,r1,r2]) rfl (zle (zax (New.trans b01 b2) G3 (Nat.le_refl _) (Nat.le_refl _)))
 |some x=>
  obtain⟨F,s⟩:=x;rw[ho] at hpost;obtain⟨Ac,cc,L,r,Ag,cg,G,A1,m1,c1,rfl,hFP,FI,hcg,o1⟩:=hpost;dsimp only at hFP o1;obtain⟨f1,f2,f3,f4,f5,f6,f7⟩:=HIS.out F s ho;have hx:=HO.out;rw[ho] at hx;dsimp only at hx;rw[<-hFP] at f1 f2 f5 hx;have hFew:=zr2 f1 b;have hFG:(za5 L r G).groups=G.map grP:=rfl;unfold zlg at hx hFew;rw[hFG] at hx hFew f5;obtain⟨hb,hc,hc2⟩:=HB.out;have hs:4+szG (G.map grP)<=b.length:=by omega
  have CU:=fun(W:World) (hW:New W1 W)=>z3d (r:=r) (cc:=cc) (cg:=cg) (Reads.later (HR.out.later b1) hW) hb hc hc2 (FI.later hW) f1 hs
  unfold zl7 at CU;have CU:=Hz CU;have hCGl:(zir (G.map grP) (b.drop 4)).length<=65536:=by rw[zk4];exact(znx f1).1
  have HC64:=Hz (fun(k:Nat) (hk:k<(zir (G.map grP) (b.drop 4)).length)=>show((zir (G.map grP) (b.drop 4)).getD k []).length<=64 by obtain⟨_,n2,n3⟩:=znx f1;rw[zk4] at hk;rw[zis _ _ _ hk,znp];have:=(n3 k hk).1;rw[hFG] at this;omega)
  have TA:=Hz (fun(W:World) (hW:New W1 W) (Ap:Option Addr) (cp:Nat) (P:List zjm) hP hPn=>z8m (r:=r) (cc:=cc) (cg:=cg) (Ap:=Ap) (cp:=cp) (P:=P) (FI.later hW) (zpg f2) hP hPn);have HMEM:=Hz (fun p (hp:p∈(zir (G.map grP) (b.drop 4)).flatten.flatten)=>z0o hp);generalize zir (G.map grP) (b.drop 4)=CG at*;have HX:=Hz hx;have HFew:=Hz hFew;have HFP:=Hz hFP;unfold zh9 at CU TA⊢;clear f1 f2 f3 f4 f5 f6 f7 hx hFew hFP FI o1 hb hc hc2 hs ho HIS HO hcg hFG
  go_upto_region 2 with(refine zah rfl 38 (.tmp 4) (.tmp 13) rfl W1.heap.size _ rfl rfl (Blk.new W1 38 #[.slice none 0 0,.int .i64 0,.slice none 0 0]) (by kernel_rfl) rfl (by simp[Value.oneCell']) ?_
                        intro W2 BF G2;have b2:New W1 W2:=zax ((Below.refl _ _).alloc (Nat.le_refl _) _) G2 (Nat.le_refl _) (Nat.le_refl _);have BZ2:=BZ1.below b2 BZ1.lt;obtain⟨x0,x1,x2⟩:=zaf BF;clear G2 BZ1)
  have b02:=New.trans b01 b2;go_wp2_with fail
  refine(CU.out W2 b2).mono ?_;rintro e w4 ⟨AX,XR,rfl,b4,RX,HXR,hXP⟩;clear CU x0 x1 x2;have BF4:=BF.below b4 BF.lt;have BZ4:=BZ2.below b4 BZ2.lt;have b04:=Hz (New.trans b02 b4);have b14:=Hz (New.trans b2 b4);have RX:=Hz RX;have HXR:=Hz HXR;have hXl:=congrArg List.length hXP;rw[List.length_map] at hXl;have hXR:XR.length<=65536:=by omega
  have HXL:=Hz hXl;have HXP:=Hz hXP;have HZ4:=Hz BZ4;have HF4:=Hz BF4;clear hXl hXP BF BZ2 b2 b4 b02 BZ4 BF4 b01 b1;go_wp2_with fail
  go_loopw [7,24] (fun v i wr=>∃(k:Nat) (A2:Option Addr) (c2:Nat) (P:List zjm),k<=XR.length/\i= .int .i64 (k:Int)/\v= .slice A2 P.length c2/\Hid (Go.Hm.Own wr w4.heap.size 31 (.slice A2 P.length c2) (recs zjf P))/\Hid (P.map byP=(CG.take k).flatten.flatten)/\Hid (∀d∈P,PieceIn w4 d)/\New w4 wr) (fun _ i _=>XR.length-(intOf i).toNat)
  case atStart=>exact⟨0,none,0,[],Nat.zero_le _,rfl,rfl,Hz Own.nil_,Hz rfl,Hz (by simp),New.refl _⟩
  case round=>
   obtain⟨k,A2,c2,P,hk,rfl,rfl,OP,HP,HPI,bw⟩:=hrel;by_cases hlt:k<XR.length
   ·obtain⟨ax,rfl,_,_,hcx⟩:=(Reads.later RX.out bw).rec_ (f:=zyc) (sz:=1) (fun _=>rfl) (none,0,[]) hlt (by omega)
    have hcx:=hcx 0 _ rfl;rw[Nat.mul_one,Nat.add_zero] at hcx;have hgm:XR.getD k (none,0,[])∈XR:=zan _ hlt;obtain⟨hg1,hg2,hg3⟩:=HXR.out _ hgm;have hgP:gpP (XR.getD k (none,0,[]))=CG.getD k []:=by rw[<-HXP.out,zba gpP XR (none,0,[]) [] hlt]
    have htk:=zae CG k [] (by rw[<-HXL.out];exact hlt);have hle:=zwb CG (k+1);have hfew:=HFew.out;rw[<-hgP] at htk;generalize XR.getD k (none,0,[])=g at*;obtain⟨ga,gc,gl⟩:=g;dsimp only at hcx hg1 hg2 hg3;have hPl:=congrArg List.length HP.out;rw[List.length_map] at hPl;have hfl:(zc1 gl).map byP=(gpP (ga,gc,gl)).flatten:=qc7 gl;have hfl2:=congrArg List.length hfl;rw[List.length_map] at hfl2;have hsum:P.length+(zc1 gl).length<=4194304:=by rw[htk,List.flatten_append,List.flatten_append,List.length_append,List.flatten_cons,List.flatten_nil,List.append_nil] at hle;omega
    have hgl:gl.length<=5000000000000:=by have h1:=HC64.out k (by rw[<-HXL.out];exact hlt);rw[<-hgP] at h1;unfold gpP at h1;rw[List.length_map] at h1;dsimp only at h1;omega
    have CC:=Hz (zyb (c:=gc) (Reads.later hg2 bw) (fun d hd=>(hg3 d hd).2.1.later bw) hgl (by omega));have HG3:=Hz hg3;have HTK:=Hz htk;have HFL:=Hz hfl;clear hg1 hg2 hg3 hPl hfl hfl2 htk hle hfew hgP hgm hgl;go_wp2_with fail
    refine CC.out.mono ?_;rintro e w5 ⟨A5,c5,rfl,o5,b5⟩;have bw5:=New.trans bw b5;have R5:=Reads.of_own o5;have OP5:=OP.out.later b5;have hbl:=zhf P;have hbs:=bw5.size;clear CC o5 bw b5 OP
    go_wp2_with (refine zeg qin rfl (.tmp 28) (.tmp 30) rfl (W:=w4) (B:=w4.heap.size) (news:=recs zjf (zc1 gl)) OP5 R5 rfl rfl bw5 (Nat.le_refl _) hbs (zpw _) (by rw[hbl];omega) (by rw[hbl];simp only[maxLen];omega) ?_
                 intro A6 c6 w6 _ _ o6 _ b6 _;rw[hbl,<-zaw] at o6;clear OP5 R5 bw5)
    have O6:=Hz o6;have HP6:=Hz (show(P++zc1 gl).map byP=(CG.take (k+1)).flatten.flatten by rw[List.map_append,HP.out,HFL.out,HTK.out,List.flatten_append,List.flatten_append,List.flatten_cons,List.flatten_nil,List.append_nil])
    have HPI6:Hid (∀d∈P++zc1 gl,PieceIn w4 d):=Hz (by
     intro d hd;rcases List.mem_append.1 hd with hd|hd
     ·exact HPI.out d hd
     ·obtain⟨x,hx,hd⟩:=List.mem_flatMap.1 hd
      exact(HG3.out x hx).2.2 d hd)
    have hl6:(P++zc1 gl).length=P.length+(zc1 gl).length:=List.length_append;rw[<-hl6] at O6⊢;generalize P++zc1 gl=P6 at*;clear hl6 o6 HP HPI HG3 HFL HTK;go_roundw
    case rel=>exact⟨k+1,A6,c6,P6,by omega,by go_num,rfl,O6,HP6,HPI6,b6⟩
    case measure=>simp[intOf];omega
   ·obtain rfl:k=XR.length:=by omega
    have hP:=HP.out;rw[List.take_of_length_le (by rw[<-HXL.out];exact Nat.le_refl _)] at hP;have hPl:=congrArg List.length hP;rw[List.length_map] at hPl;have hfew:=HFew.out;have hoP:=OP.out;unfold Go.Hm.Own at hoP;rw[zhf] at hoP;have PG:PgsIn wr A2 c2 P:=by
     obtain⟨_,_,e,q1,_⟩:=zcg hoP;injection e with _ _ e;refine⟨Reads.of_own hoP,by omega,fun d hd=>?_⟩;have hm:byP d∈CG.flatten.flatten:=by rw[<-hP];exact List.mem_map.2 ⟨d,hd,rfl⟩
     obtain⟨h1,h2⟩:=HMEM.out _ hm;refine⟨(HPI.out d hd).1.later bw,fun x hx=>H8.out x (List.mem_of_mem_drop (h1 x hx)),?_⟩;have:=HB.out.1;rw[List.length_drop] at h2;unfold byP at h2;omega
    have TB:=Hz (TA.out wr (New.trans b14.out bw) A2 c2 P PG (by omega));have BZ:=HZ4.out.below bw HZ4.out.lt;have hx:=HX.out;rw[<-hP] at hx;have HX:=Hz hx;have bw':=Hz (New.trans b04.out bw);have hzz:=Hz (show w.heap.size<wr.heap.size from BZ.lt);obtain⟨x0,x1,x2⟩:=zaf (HF4.out.below bw HF4.out.lt);clear hP hPl hfew hoP PG HP HPI OP bw hx;go_wp2_with fail
    refine TB.out.mono ?_;rintro e w7 hq;clear TB x0 x1 x2;have hmain:∀(er:Int) (L':List za2) (r':Int) (C:List (List zab)),TabPost er L' r' C wr e w7-> ∃(Ac' Ad:Option Addr) (cc' cd:Nat) (D:List zdy),e= .returned (.tuple #[.agg #[.slice Ac' L'.length cc',.int .i64 r',.slice Ad D.length cd],.int .i64 er])/\New wr w7/\ ∀w8,w7.grownBy w8 (some w.heap.size)-> ∀e',e'= .returned (.tuple #[.agg #[.slice Ac' L'.length cc',.int .i64 r',.slice Ad D.length cd],.int .i64 er])->TabPost er L' r' C w e' w8:=by
     intro er L' r' C hq;obtain⟨Ac',Ad,cc',cd,D,he,h1,h2,h3,h4,h5⟩:=hq;refine⟨Ac',Ad,cc',cd,D,he,h5,fun w8 g8 e' he'=>?_⟩;have hne:∀{e:TypeId} {sz:Nat} {v:Value} {n:Nat} {xs:List Value},w7.ownsRow wr.heap.size e sz v n xs->v.ownBlock=none\/v.ownBlock≠some w.heap.size:=fun h=> .inr (fun e=>by have:=(World.ownsRow.lt h _ e).1;have:=hzz.out;omega)
     have hle:=Nat.le_of_lt hzz.out;exact⟨Ac',Ad,cc',cd,D,he',zbd (World.ownsRow.kept h1 g8 (hne h1)) hle,zbd (World.ownsRow.kept h2 g8 (hne h2)) hle,(fun d hd=>zbd (World.ownsRow.kept (h3 d hd) g8 (hne (h3 d hd))) hle),h4,zax (New.trans bw'.out h5) g8 (Nat.le_refl _) (Nat.le_refl _)⟩
    have hfin:∃(er:Int) (L':List za2) (r':Int) (C:List (List zab)),TabPost er L' r' C wr e w7/\ ∀w8 e',TabPost er L' r' C w e' w8->qhx X w e' w8:=by
     have hx:=HX.out;cases ht:z0g (za5 L r G) (P.map byP) with
     |none=>
      rw[ht] at hq hx;rw[hx];exact⟨2,[],0,[],hq,fun _ _ h=>h⟩
     |some C=>
      rw[ht] at hq hx;rw[hx];exact⟨0,L,r,C,hq,fun _ _ h=>h⟩
    obtain⟨er,L',r',C,hq1,hq2⟩:=hfin;obtain⟨Ac',Ad,cc',cd,D,rfl,b7,hm⟩:=hmain er L' r' C hq1;have BZ7:=BZ.below b7 BZ.lt;have HM:=Hz hm;have HQ2:=Hz hq2;clear hq hmain hq1 hq2 hm HX
    go_wp2_with (refine zah rfl 25 (.tmp 2) (.tmp 36) rfl w.heap.size _ rfl rfl BZ7 (by kernel_rfl) rfl (by simp[Value.oneCell']) ?_
                 intro W8 BR G8;obtain⟨r0,r1,r2⟩:=zaf BR)
    exact bodyPost_ret (v:= .tuple #[.agg #[.slice Ac' L'.length cc',.int .i64 r',.slice Ad D.length cd],.int .i64 er]) (by simp[results,Tryz.results15,go_sem,r0,r1,r2]) rfl (HQ2.out _ _ (HM.out _ G8 _ rfl))
open Go.RowKit Go.Hm
section
variable{L:List za2}{E:List Int}{D:List (List zab)}{pr:Int}
def pgF(L:List za2)(E:List Int)(D:List (List zab))(c:Nat)(q:Int × Int):List Nat:=(zfo L E D c q).2
def zli(L:List za2)(E:List Int)(D:List (List zab))(l:List (Int × Int))(cs:List Nat):List (List (List Nat)):=cs.map fun c=>l.map (pgF L E D c)
def zia(L:List za2)(E:List Int)(D:List (List zab))(pr:Int)(l:List (Int × Int)):List (List (List (List Nat))):=l.map fun s=>zli L E D (zbr s.1 s.2 pr) (List.range L.length)
theorem z0r{c:Nat}:∀(l:List (Int × Int)) {y x:List (List Nat) × Int},chW L E D c (some y) l=some x->x.1=y.1++l.map (pgF L E D c)/\ ∀q∈l,(zfo L E D c q).1=0
 | [],y,x,h=>by
   injection h with h;subst h;simp
 |q::l,y,x,h=>by
  have e:chW L E D c (some y) (q::l)=chW L E D c (pgW L E D c (some y) q) l:=rfl;rw[e] at h;cases hp:pgW L E D c (some y) q with
  |none=>rw[hp,zje] at h;cases h
  |some z=>
   rw[hp] at h;obtain⟨h1,h2⟩:=z0r l h;unfold pgW at hp;dsimp only at hp;split at hp
   ·rename_i hc
    injection hp with hp;subst hp;refine⟨by rw[h1];simp[pgF],fun q' hq'=>?_⟩;rcases List.mem_cons.1 hq' with rfl|hq'
    ·exact hc.1
    ·exact h2 _ hq'
   ·cases hp
theorem z0s{s:Int × Int}:∀(k:Nat) {y x:List (List Nat) × Int},gpW L E D pr s (some y) k=some x->x.1=y.1++(zli L E D (zbr s.1 s.2 pr) (List.range k)).flatten/\ ∀c,c<k-> ∀q∈zbr s.1 s.2 pr,(zfo L E D c q).1=0
 |0,y,x,h=>by
  injection h with h;subst h;simp[zli]
 |k+1,y,x,h=>by
  rw[gpW] at h;cases hp:gpW L E D pr s (some y) k with
  |none=>rw[hp,zje] at h;cases h
  |some z=>
   rw[hp] at h;obtain⟨h1,h2⟩:=z0r _ h;obtain⟨h3,h4⟩:=z0s k hp;refine⟨by rw[h1,h3,List.range_succ];simp[zli],fun c hc q hq=>?_⟩;rcases Nat.lt_or_ge c k with h5|h5
   ·exact h4 c h5 q hq
   ·obtain rfl:c=k:=by omega
    exact h2 q hq
theorem zwc:∀(l:List (Int × Int)) {y x:List (List Nat) × Int},l.foldl (grW L E D pr) (some y)=some x->x.1=y.1++(zia L E D pr l).flatten.flatten/\ ∀s∈l,∀c,c<L.length-> ∀q∈zbr s.1 s.2 pr,(zfo L E D c q).1=0
 | [],y,x,h=>by
   injection h with h;subst h;simp[zia]
 |s::l,y,x,h=>by
  rw[List.foldl_cons] at h;cases hp:grW L E D pr (some y) s with
  |none=>rw[hp,zpt] at h;cases h
  |some z=>
   rw[hp] at h;obtain⟨h1,h2⟩:=zwc l h;obtain⟨h3,h4⟩:=z0s _ hp;refine⟨by rw[h1,h3];simp[zia],fun s' hs'=>?_⟩;rcases List.mem_cons.1 hs' with rfl|hs'
   ·exact h4
   ·exact h2 _ hs'
theorem qea(c:Nat):∀(l:List (Int × Int)) (r:List Nat),z2f (l.map (zbu L E D c)) ((l.map (pgF L E D c)).flatten++r)=l.map (pgF L E D c)/\(l.map (pgF L E D c)).flatten.length=szL (l.map (zbu L E D c))
 | [],r=>⟨rfl,rfl⟩
 |q::l,r=>by
  obtain⟨h1,h2⟩:=qea c l r;have e:(zbu L E D c q).1.toNat=(pgF L E D c q).length:=by unfold zbu pgF;simp
  rw[List.map_cons,List.map_cons,z2f,List.flatten_cons,List.append_assoc,e,List.take_left,List.drop_left,h1,znl,e,List.length_append,h2];exact⟨rfl,rfl⟩
theorem qeb(l:List (Int × Int)):∀(cs:List Nat) (r:List Nat),zcj (cs.map fun c=>l.map (zbu L E D c)) ((zli L E D l cs).flatten.flatten++r)=zli L E D l cs/\(zli L E D l cs).flatten.flatten.length=szC (cs.map fun c=>l.map (zbu L E D c))
 | [],r=>⟨rfl,rfl⟩
 |c::cs,r=>by
  obtain⟨h1,h2⟩:=qeb l cs r;obtain⟨h3,h4⟩:=qea (L:=L) (E:=E) (D:=D) c l ((zli L E D l cs).flatten.flatten++r);have e:zli L E D l (c::cs)=l.map (pgF L E D c)::zli L E D l cs:=rfl;rw[e,List.map_cons,zcj,List.flatten_cons,List.flatten_append,List.append_assoc,h3,<-h4,List.drop_left,h1,znm,<-h4,List.length_append,h2];exact⟨rfl,rfl⟩
theorem z8p:∀(l:List (Int × Int)) (r:List Nat),zir (l.map (zb0 L E D pr)) ((zia L E D pr l).flatten.flatten.flatten++r)=zia L E D pr l/\(zia L E D pr l).flatten.flatten.flatten.length=szG (l.map (zb0 L E D pr))
 | [],r=>⟨rfl,rfl⟩
 |s::l,r=>by
  obtain⟨h1,h2⟩:=z8p l r;obtain⟨h3,h4⟩:=qeb (L:=L) (E:=E) (D:=D) (zbr s.1 s.2 pr) (List.range L.length) ((zia L E D pr l).flatten.flatten.flatten++r);have e:zia L E D pr (s::l)=zli L E D (zbr s.1 s.2 pr) (List.range L.length)::zia L E D pr l:=rfl;have e2:(zb0 L E D pr s).2=(List.range L.length).map fun c=>(zbr s.1 s.2 pr).map (zbu L E D c):=rfl
  rw[e,List.map_cons,zir,e2,List.flatten_cons,List.flatten_append,List.flatten_append,List.append_assoc,h3,<-h4,List.drop_left,h1,znn,e2,<-h4,List.length_append,h2];exact⟨rfl,rfl⟩
theorem qir{c:Nat}{q:Int × Int}(hd:∀y∈zao D c q,zai y)(h:(zfo L E D c q).1=0):SheOk (L.getD c zc4).2.1 (L.getD c zc4).2.2 (zbu L E D c q) (pgF L E D c q) (zao D c q):=
 ⟨qgb hd (show pgE _ _ _ _=(0,pgF L E D c q) from Prod.ext h rfl),rfl,rfl,zjd _ _⟩
theorem qhy{c:Nat}:∀(l:List (Int × Int)) (C:List (List zab)) (R:List (List Nat)),c<C.length->(∀q∈l,(∀y∈zao D c q,zai y)/\(zfo L E D c q).1=0)->
 chT (L.getD c zc4) c (some (C,l.map (pgF L E D c)++R)) (l.map (zbu L E D c))=some (C.set c (C.getD c []++(l.map (zao D c)).flatten),R)
 | [],C,R,hc,_=>by
   simp only[List.map_nil,List.flatten_nil,List.append_nil,List.nil_append];rw[ztj hc];rfl
 |q::l,C,R,hc,h=>by
  have h0:=h q (by simp);have e:chT (L.getD c zc4) c (some (C,(q::l).map (pgF L E D c)++R)) ((q::l).map (zbu L E D c))=chT (L.getD c zc4) c (pgT (L.getD c zc4) c (some (C,pgF L E D c q::(l.map (pgF L E D c)++R))) (zbu L E D c q)) (l.map (zbu L E D c)):=rfl;rw[e,qd9 (qir h0.1 h0.2),qhy l _ R (by rw[List.length_set];exact hc) (fun q' hq'=>h q' (by simp[hq']))];rw[List.set_set,List.getD_eq_getElem?_getD (l:=List.set _ _ _),List.getElem?_set_self hc,Option.getD_some,List.append_assoc,List.map_cons,List.flatten_cons]
theorem qec(l:List (Int × Int)):∀(m j:Nat) (C:List (List zab)) (R:List (List Nat)),j+m<=C.length->(∀c,c<j+m-> ∀q∈l,(∀y∈zao D c q,zai y)/\(zfo L E D c q).1=0)->
 ∃C',zp9 L j ((List.range' j m).map fun c=>l.map (zbu L E D c)) (some (C,(zli L E D l (List.range' j m)).flatten++R))=some (C',R)/\C'.length=C.length/\ ∀i,C'.getD i []=if j<=i/\i<j+m then C.getD i []++(l.map (zao D i)).flatten else C.getD i []
 |0,j,C,R,_,_=>⟨C,rfl,rfl,fun i=>by rw[if_neg (by omega)]⟩
 |m+1,j,C,R,hj,h=>by
  have e:zli L E D l (List.range' j (m+1))=l.map (pgF L E D j)::zli L E D l (List.range' (j+1) m):=rfl;have e2:((List.range' j (m+1)).map fun c=>l.map (zbu L E D c))=l.map (zbu L E D j)::((List.range' (j+1) m).map fun c=>l.map (zbu L E D c)):=rfl;obtain⟨C',h1,h2,h3⟩:=qec l m (j+1) (C.set j (C.getD j []++(l.map (zao D j)).flatten)) R (by rw[List.length_set];omega) (fun c hc=>h c (by omega));refine⟨C',?_,by rw[h2,List.length_set],fun i=>?_⟩
  ·rw[e,e2,List.flatten_cons,List.append_assoc,zp9,qhy l C _ (by omega) (h j (by omega))]
   exact h1
  ·rw[h3]
   by_cases hi:i=j
   ·subst hi
    rw[if_neg (by omega),if_pos (by omega),List.getD_eq_getElem?_getD (l:=List.set _ _ _),List.getElem?_set_self (by omega),Option.getD_some]
   ·have e3:(C.set j (C.getD j []++(l.map (zao D j)).flatten)).getD i []=C.getD i []:=by
     rw[List.getD_eq_getElem?_getD,List.getElem?_set_ne (by omega),<-List.getD_eq_getElem?_getD]
    rw[e3];by_cases h4:j+1<=i/\i<j+1+m
    ·rw[if_pos h4,if_pos (by omega)]
    ·rw[if_neg h4,if_neg (by omega)]
theorem qhz:∀(l:List (Int × Int)) (C:List (List zab)) (R:List (List Nat)),C.length=L.length->(∀s∈l,∀c,c<L.length-> ∀q∈zbr s.1 s.2 pr,(∀y∈zao D c q,zai y)/\(zfo L E D c q).1=0)->
 ∃C',(l.map (zb0 L E D pr)).foldl (grT L) (some (C,(zia L E D pr l).flatten.flatten++R))=some (C',R)/\C'.length=L.length/\ ∀i,i<L.length->C'.getD i []=C.getD i []++(l.map fun s=>((zbr s.1 s.2 pr).map (zao D i)).flatten).flatten
 | [],C,R,hC,_=>⟨C,rfl,hC,fun i _=>by simp⟩
 |s::l,C,R,hC,h=>by
  have e:zia L E D pr (s::l)=zli L E D (zbr s.1 s.2 pr) (List.range L.length)::zia L E D pr l:=rfl;have e2:(zb0 L E D pr s).2=(List.range L.length).map fun c=>(zbr s.1 s.2 pr).map (zbu L E D c):=rfl
  obtain⟨C1,h1,h2,h3⟩:=qec (L:=L) (E:=E) (D:=D) (zbr s.1 s.2 pr) L.length 0 C ((zia L E D pr l).flatten.flatten++R) (by omega) (fun c hc=>h s (by simp) c (by omega));obtain⟨C',h4,h5,h6⟩:=qhz l C1 R (by omega) (fun s' hs'=>h s' (by simp[hs']));refine⟨C',?_,h5,fun i hi=>?_⟩
  ·rw[e,List.flatten_cons,List.flatten_append,List.append_assoc,List.map_cons,List.foldl_cons]
   have e3:grT L (some (C,(zli L E D (zbr s.1 s.2 pr) (List.range L.length)).flatten++((zia L E D pr l).flatten.flatten++R))) (zb0 L E D pr s)=some (C1,(zia L E D pr l).flatten.flatten++R):=by unfold grT;rw[e2,List.range_eq_range'];exact h1
   rw[e3,h4]
  ·rw[h6 i hi,h3,if_pos (by omega),List.map_cons,List.flatten_cons,List.append_assoc]
end
theorem zp1(l:List zab){f t s:Nat}(hs:0<s):∀k,k<=zhz f t s->(((zgi f t s).take k).map fun q=>(l.drop q.1.toNat).take (q.2-q.1).toNat).flatten=(l.drop f).take (atN f t s k-f)
 |0,_=>by simp[atN];omega
 |k+1,hk=>by
  have ih:=zp1 l (f:=f) (t:=t) hs k (by omega);have hk2:=(zgj (f:=f) (t:=t) hs k).1 (by omega);obtain⟨a1,a2,a3⟩:=zzo hk2;have hle:f<=atN f t s k:=by rw[a1];omega
  rw[zos (f:=f) (t:=t) (s:=s) (k:=k) (by omega),List.map_append,List.flatten_append,ih,a3];simp only[List.map_cons,List.map_nil,List.flatten_cons,List.flatten_nil,List.append_nil,Int.toNat_natCast];have e1:(((atN f t s (k+1):Nat):Int)-((atN f t s k:Nat):Int)).toNat=atN f t s (k+1)-atN f t s k:=by omega
  have e2:atN f t s (k+1)-f=(atN f t s k-f)+(atN f t s (k+1)-atN f t s k):=by omega
  rw[e1,e2,List.take_add,List.drop_drop];congr 3
  omega
theorem zp2(l:List zab){f t:Nat}{s:Int}(h:f<=t)(ht:t<=65536)(hs:1<=s):((zbr (f:Int) (t:Int) s).map fun q=>(l.drop q.1.toNat).take (q.2-q.1).toNat).flatten=(l.drop f).take (t-f):=by
 obtain⟨n,rfl⟩:=Int.eq_ofNat_of_zero_le (show 0<=s by omega);rcases Nat.lt_or_ge f t with hlt|hge
 ·rw[zzp hlt ht (by omega)]
  have:=zp1 l (f:=f) (t:=t) (s:=n) (by omega) (zhz f t n) (Nat.le_refl _);have e:(zgi f t n).take (zhz f t n)=zgi f t n:=List.take_of_length_le (by rw[zfk];exact Nat.le_refl _);rw[e] at this;rw[this];congr 1
  have hn: ¬(f+zhz f t n*n<t):=fun q=>by have:=(zgj (f:=f) (t:=t) (s:=n) (by omega) (zhz f t n)).2 q;omega
  unfold atN;omega
 ·rw[zuw (by omega)]
  have:t-f=0:=by omega
  rw[this];simp
theorem ztn{f t:Nat}{s:Int}{q:Int × Int}(h:q∈zbr (f:Int) (t:Int) s):∃a b:Nat,q=((a:Int),(b:Int))/\f<=a/\a<=b/\b<=t:=by
 unfold zbr at h;split at h
 ·cases h
 ·rename_i hc
  unfold zgi at h;obtain⟨i,hi,rfl⟩:=List.mem_map.1 h;rw[List.mem_range] at hi;have:=(zgj (f:=(f:Int).toNat) (t:=(t:Int).toNat) (s:=s.toNat) (by omega) i).1 hi;refine⟨_,_,rfl,?_,?_,?_⟩
  ·omega
  ·rw[Nat.succ_mul];omega
  ·omega
end Go.Proofs.Y
