import Derived.Test.YtbahbnbpmfgimaaGreatDoorBun34
import Derived.Test.YtbahbnbpmfgimaaGreatDoorBun35
import Derived.Test.YtbahbnbpmfgimaaGreatDoorBun41
set_option maxHeartbeats 2000000
set_option maxRecDepth 100000
namespace Go.Proofs.Y
open Go Go.RowKit Go.Hm
def Tells(A B:List (List Nat)):Prop:=∃x∈A,∃y∈B,x≠y/\zef x=zef y
theorem Tells.mono{A B A' a:List (List Nat)}(h:Tells A B)(b:∀x∈A,x∈A')(c:∀x∈B,x∈a):Tells A' a:=by obtain⟨x,d,y,e,h⟩:=h;exact⟨x,b x d,y,c y e,h⟩
theorem qbn{α:Type}{X Y:List α}(d:α)(h:X.length=Y.length)(a:X≠Y):∃i,i<X.length/\X.getD i d≠Y.getD i d:=by
 refine qvd fun e=>a (qre h fun i b c=>?_)
 refine qvd fun f=>e ⟨i,b,?_⟩
 rwa[qsh,qsh,qqt b,qqt c]
theorem ztq{s t:List Nat}{p q:List (List Nat)}(g:1<=s.length/\s.length<=255)(i:1<=t.length/\t.length<=255)(k:p.length<=255)(l:q.length<=255)(c:∀x∈p,x.length<18446744073709551616)(d:∀x∈q,x.length<18446744073709551616)
 (h:zca s p=zca t q)(b: ¬(s=t/\p=q)):Tells [zb2 s p] [zb2 t q]:=by
 have e:za9 s p=some (zb2 s p):=if_pos ⟨g.1,g.2,k⟩;have f:za9 t q=some (zb2 t q):=if_pos ⟨i.1,i.2,l⟩;refine⟨_,qr6.2 rfl,_,qr6.2 rfl,fun j=>b ((zp2 c d e f).1 j),?_⟩;have a:=zv9 h;unfold zey at a;rw[e,f] at a;exact a
theorem zdd(k n:Int)(d:List Nat):leafP k n d=[low (u64N_tren k) 8,low (u64N_tren n) 8,d]:=rfl
theorem ztr{k n:Int}{d:List Nat}(b:d.length<18446744073709551616):∀x∈leafP k n d,x.length<18446744073709551616:=by
 intro x a;rw[zdd] at a;simp only[qsm,qur,or_false] at a;rcases a with rfl|rfl|rfl
 ·rw[za0];omega
 ·rw[za0];omega
 ·exact b
theorem qi0{s:List Nat}{D:List (List Nat)}{i:Nat}(a:1<=s.length/\s.length<=255)(hi:i<D.length):zb2 s (leafP (i:Int) (D.length:Int) (D.getD i []))∈lvF s D:=by unfold lvF;rw[qtj];refine⟨i,qtn.2 hi,?_⟩;rw[show za9 s (leafP (i:Int) (D.length:Int) (D.getD i []))=some (zb2 s (leafP (i:Int) (D.length:Int) (D.getD i []))) from if_pos ⟨a.1,a.2,by rw[zdd];simp⟩];simp
theorem qi1{s:List Nat}{D:List (List Nat)}{i:Nat}(hi:i<D.length):(lvD s D).getD i []=zca s (leafP (i:Int) (D.length:Int) (D.getD i [])):=by unfold lvD;rw[qsh,qtk,qvv hi];rfl
def zvd(D:List (List Nat)):Prop:=∀d∈D,d.length<18446744073709551616
theorem z23{D:List (List Nat)}(h:zvd D){i:Nat}(hi:i<D.length):(D.getD i []).length<18446744073709551616:=h _ (zf7 hi)
theorem zkk{D:List (List Nat)}(h:Digs D):zvd D:=fun d a=>by rw[(h d a).1];omega
theorem zrg{s:List Nat}{D E:List (List Nat)}(c:1<=s.length/\s.length<=255)(m:zvd D)(n:zvd E)(g:D.length=E.length)(h:ovD s D=ovD s E)(f:D≠E):Tells (ovF s D) (ovF s E):=by
 unfold ovD at h;unfold ovF;by_cases j:lvD s D=lvD s E
 ·obtain⟨i,d,p⟩:=qbn [] g f
  have a:i<E.length:=by omega
  have e:=congrArg (fun l=>l.getD i []) j;rw[qi1 d,qi1 a] at e;refine(ztq c c (by rw[zdd];simp) (by rw[zdd];simp) (ztr (z23 m d)) (ztr (z23 n a)) e (fun o=>?_)).mono ?_ ?_
  ·have:=o.2
   rw[zdd,zdd] at this;simp only[qqe,and_true] at this;exact p this.2.2
  ·intro x b
   obtain rfl:=qr6.1 b;exact qvs _ (qi0 c d)
  ·intro x b
   obtain rfl:=qr6.1 b;exact qvs _ (qi0 c a)
 ·obtain⟨x,b,y,q,k⟩:=zy7 _ (zil s D) _ (zil s E) (by rw[znh,znh];exact g.symm) h j
  exact⟨x,qvt _ b,y,qvt _ q,k⟩
theorem zpk(s:List Nat)(X:List (List (List Nat))):Digs (X.map (ovD s)):=fun d a=>by obtain⟨x,_,rfl⟩:=qqu.1 a;exact zni _ _
theorem zm0(C:List (List (List (List Nat)))):Digs (C.map znj):=fun d a=>by obtain⟨x,_,rfl⟩:=qqu.1 a;exact z1v _
theorem zed{α β:Type}(f:α->β)(X:List α)(a:α)(b:β){i:Nat}(hi:i<X.length):(X.map f).getD i b=f (X.getD i a):=by rw[qsh,qtk,qqt hi,qsh,qqt hi];rfl
theorem z6b{X Y:List (List (List Nat))}(m:∀x∈X,zvd x)(n:∀x∈Y,zvd x)(j:X.map List.length=Y.map List.length)(h:znj X=znj Y)(f:X≠Y):Tells (zqb X) (zqb Y):=by
 have c:X.length=Y.length:=by simpa using congrArg List.length j
 unfold znj at h;unfold zqb;by_cases k:X.map (ovD zcp)=Y.map (ovD zcp)
 ·obtain⟨i,d,o⟩:=qbn [] c f
  have a:i<Y.length:=by omega
  have e:=congrArg (fun l=>l.getD i []) k;rw[zed _ X [] [] d,zed _ Y [] [] a] at e;have g:=congrArg (fun l=>l.getD i 0) j;rw[zed _ X [] 0 d,zed _ Y [] 0 a] at g;exact(zrg ⟨by decide,by decide⟩ (m _ (zah _ d)) (n _ (zah _ a)) g e o).mono
   (fun x b=>qvs _ (qtj.2 ⟨_,zah _ d,b⟩)) (fun x b=>qvs _ (qtj.2 ⟨_,zah _ a,b⟩))
 ·exact(zrg ⟨by decide,by decide⟩ (zkk (zpk _ _)) (zkk (zpk _ _)) (by rw[qtl,qtl];exact c) h k).mono (fun x b=>qvt _ b) (fun x b=>qvt _ b)
theorem z6c{C E:List (List (List (List Nat)))}(m:∀X∈C,∀x∈X,zvd x)(n:∀X∈E,∀x∈X,zvd x)(j:C.map (fun X=>X.map List.length)=E.map (fun X=>X.map List.length))(h:zwg C=zwg E)(f:C≠E):Tells (z1u C) (z1u E):=by
 have c:C.length=E.length:=by simpa using congrArg List.length j
 unfold zwg at h;unfold z1u;by_cases k:C.map znj=E.map znj
 ·obtain⟨i,d,o⟩:=qbn [] c f
  have a:i<E.length:=by omega
  have e:=congrArg (fun l=>l.getD i []) k;rw[zed _ C [] [] d,zed _ E [] [] a] at e;have g:=congrArg (fun l=>l.getD i []) j;rw[zed _ C [] [] d,zed _ E [] [] a] at g;exact(z6b (m _ (zah _ d)) (n _ (zah _ a)) g e o).mono
   (fun x b=>qvs _ (qtj.2 ⟨_,zah _ d,b⟩)) (fun x b=>qvs _ (qtj.2 ⟨_,zah _ a,b⟩))
 ·exact(zrg ⟨by decide,by decide⟩ (zkk (zm0 _)) (zkk (zm0 _)) (by rw[qtl,qtl];exact c) h k).mono (fun x b=>qvt _ b) (fun x b=>qvt _ b)
theorem zxv:∀(C:List (List za3)) (x:List Nat),(zck C x).map List.length=C.map List.length
 | [],_=>rfl
 |l::C,x=>by rw[zck,qrj,qrj,zkh,zxv C]
theorem zjt:∀(G:List za6) (x:List Nat),(ze9 G x).map (fun X=>X.map List.length)=G.map (fun g=>g.2.map List.length)
 | [],_=>rfl
 |g::G,x=>by rw[ze9,qrj,qrj,zxv,zjt G]
theorem zts{F:FootS}{b:List Nat}(f:b.length<=140737488351232):∀X∈ze9 F.groups (b.drop 4),∀x∈X,zvd x:=by
 intro X a x e d c;have:=(zkj (G:=F.groups) (x:=b.drop 4) (p:=d) (by rw[qvh];exact⟨x,by rw[qvh];exact⟨X,a,e⟩,c⟩)).2
 rw[qqw] at this;omega
def zo1(G:List za6)(b own:List Nat):List (List Nat):=z1u (ze9 G (b.drop 4))++zqc own (zwg (ze9 G (b.drop 4)))
def zrh(G:List za6)(b own:List Nat):List Nat:=z4o own (zwg (ze9 G (b.drop 4)))
theorem z6d{a b:List Nat}{F G:FootS}{s:List Nat}(f:openO a=some (F,s))(g:openO b=some (G,s)):F=G:=by
 have d:∀{a:List Nat} {F:FootS},openO a=some (F,s)->zo0 (fun r=>r) s=some F:=by
  intro a F h;unfold openO at h;split at h
  ·cases h
  ·split at h
   ·cases h
   ·rename_i k j i hF
    split at h
    ·injection h with h
     injection h with c e;subst c e;exact hF
    ·cases h
 have c:=d f;rw[d g] at c;injection c with c;exact c.symm
theorem z0r{a b:List Nat}{F G:FootS}{s t:List Nat}(f:∀x∈a,x<256)(g:∀x∈b,x<256)(d:a.length<=140737488351232)(e:b.length<=140737488351232)(j:openO a=some (F,s))(k:openO b=some (G,t))
 (h:zrh F.groups a s=zrh G.groups b t)(m:a≠b):Tells (zo1 F.groups a s) (zo1 G.groups b t):=by
 have n:=(zga f d j).2.2.2.2.1;have o:=(zga g e k).2.2.2.2.1;unfold zrh z4o at h;by_cases i: [s,zwg (ze9 F.groups (a.drop 4))]=[t,zwg (ze9 G.groups (b.drop 4))]
 ·simp only[qqe,and_true] at i
  obtain⟨rfl,i⟩:=i;obtain rfl:=z6d j k;refine(z6c (zts d) (zts e) (by rw[zjt,zjt]) i (fun l=>m (z6a f g d e j k l))).mono (fun x c=>qvs _ c) (fun x c=>qvs _ c)
 ·refine(ztq ⟨by decide,by decide⟩ ⟨by decide,by decide⟩ (by simp) (by simp) ?_ ?_ h (fun l=>i l.2)).mono (fun x c=>qvt _ c) (fun x c=>qvt _ c)
  ·intro x c
   simp only[qsm,qur,or_false] at c;rcases c with rfl|rfl
   ·omega
   ·rw[(zj3 _).1];omega
  ·intro x c
   simp only[qsm,qur,or_false] at c;rcases c with rfl|rfl
   ·omega
   ·rw[(zj3 _).1];omega
open Go Go.RowKit Go.Hm
def wG(X:List (List (List Nat))):Nat:=2*X.flatten.length+3*X.length+1
def wA(C:List (List (List (List Nat)))):Nat:=(C.map wG).sum
theorem znz(X:List (List (List Nat))):(X.flatMap (ovF zcp)).length<=2*X.flatten.length+X.length:=by
 induction X with
 |nil=>simp
 |cons x X a=>
  have:=zug zcp x;rw[qt6,qrp,qvg,qrp,qr1];omega
theorem qg5(X:List (List (List Nat))):(zqb X).length<=wG X:=by have b:=znz X;have a:=zug zfk (X.map (ovD zcp));rw[qtl] at a;unfold zqb wG;rw[qrp];omega
theorem zi0(C:List (List (List (List Nat)))):(C.flatMap zqb).length<=wA C:=by
 induction C with
 |nil=>simp
 |cons X C a=>
  have:=qg5 X;unfold wA at a⊢;rw[qt6,qrp,qrj,qt7];omega
theorem qli{C:List (List (List (List Nat)))}{k:Nat}(a:k<C.length):wA (C.take (k+1))=wA (C.take k)+wG (C.getD k []):=by unfold wA;rw[zac C k [] a,que,qud];simp
theorem qo9(C:List (List (List (List Nat))))(k:Nat):wA (C.take k)<=wA C:=by
 unfold wA;conv=>rhs;rw[<-qtq k C,que,qud]
 omega
theorem qlj{X:List (List (List Nat))}{j:Nat}(a:j<X.length):(X.take (j+1)).flatten.length=(X.take j).flatten.length+(X.getD j []).length:=by rw[zac X j [] a,qul,qrp];simp
theorem qpa(X:List (List (List Nat)))(j:Nat):(X.take j).flatten.length<=X.flatten.length:=by
 conv=>rhs;rw[<-qtq j X,qul,qrp]
 omega
theorem qnk{X:List (List (List Nat))}(h:∀x∈X,1<=x.length):X.length<=X.flatten.length:=by
 induction X with
 |nil=>simp
 |cons x X b=>
  have c:=h x (by simp);have d:=b fun y a=>h y (by simp[a])
  rw[qvg,qrp,qr1];omega
theorem qnl{C:List (List (List (List Nat)))}(h:∀X∈C,∀x∈X,1<=x.length):wA C<=5*C.flatten.flatten.length+C.length:=by
 induction C with
 |nil=>simp[wA]
 |cons X C c=>
  have d:=qnk (h X (by simp));have a:=c fun Y b=>h Y (by simp[b])
  unfold wA wG at a⊢;rw[qrj,qt7,qvg,qul,qrp,qr1];omega
theorem qi2:∀{l:List za3},(∀p∈l,1<=p.1)->l.length<=szL l
 | [],_=>by simp
 |p::l,h=>by
  have h1:=h p (by simp);have b:=qi2 (l:=l) fun q a=>h q (by simp[a])
  rw[zmq,qr1];omega
theorem qi3:∀{C:List (List za3)},(∀l∈C,∀p∈l,1<=p.1)->(C.map List.length).sum<=szC C
 | [],_=>by simp
 |l::C,h=>by
  have h1:=qi2 (h l (by simp));have b:=qi3 (C:=C) fun q a=>h q (by simp[a])
  rw[zmr,qrj,qt7];omega
theorem qi4:∀{G:List za6},(∀g∈G,∀l∈g.2,∀p∈l,1<=p.1)->(G.map fun g=>(g.2.map List.length).sum).sum<=szG G
 | [],_=>by simp
 |g::G,h=>by
  have h1:=qi3 (h g (by simp));have b:=qi4 (G:=G) fun q a=>h q (by simp[a])
  rw[zms,qrj,qt7];omega
theorem qbv(C:List (List (List (List Nat)))):C.flatten.flatten.length=(C.map fun X=>(X.map List.length).sum).sum:=by
 induction C with
 |nil=>rfl
 |cons X C a=>rw[qvg,qul,qrp,qrj,qt7,a,List.length_flatten]
theorem qi5{α:Type}{l:List α}{x:α}(d:α)(h:x∈l):∃i,i<l.length/\x=l.getD i d:=by obtain⟨i,a,rfl⟩:=qtv h;exact⟨i,a,by rw[qsh,qqt a];rfl⟩
theorem zve{F:FootS}(b:List Nat)(h:zbs F):wA (ze9 F.groups (b.drop 4))<=5*(ze9 F.groups (b.drop 4)).flatten.flatten.length+65536/\(ze9 F.groups (b.drop 4)).flatten.flatten.length<=szG F.groups/\(ze9 F.groups (b.drop 4)).length<=65536/\(∀X∈ze9 F.groups (b.drop 4),X.length<=64/\ ∀x∈X,x.length<=65536/\ ∀p∈x,p.length<=b.length):=by
 have D:=zmw h;obtain⟨L,I,J⟩:=z25 h;have r:=zjt F.groups (b.drop 4);have t:(ze9 F.groups (b.drop 4)).length=F.groups.length:=zki _ _;have f:∀X∈ze9 F.groups (b.drop 4),X.length<=64/\ ∀x∈X,x.length<=65536/\1<=x.length:=by
  intro X d;obtain⟨k,n,rfl⟩:=qi5 [] d;rw[zki] at n;obtain⟨E,H⟩:=J k n;rw[zjr _ _ _ n];refine⟨by rw[zmt,E];exact I,fun x m=>?_⟩;obtain⟨j,s,rfl⟩:=qi5 [] m;rw[zmt] at s;rw[cutC_at _ _ _ s,zkh];have u:=H j (by omega);unfold zax at u;refine⟨u,?_⟩;have o:=(zkg h n (c:=j) (by omega)).1;have A:=(h.2.1 _ (zah zao n)).1;have:=o.2;have v:∀l:List za3,1<=znt l->1<=l.length:=fun l q=>by
   cases l with
   |nil=>simp[znt] at q
   |cons a l=>simp
  exact v (zax F.groups k j) (by omega)
 have K:=qnl (C:=ze9 F.groups (b.drop 4)) fun X d x m=>((f X d).2 x m).2
 have B:=qi4 (G:=F.groups) fun g y l q p i=>(D g y l q p i).1
 have w:(ze9 F.groups (b.drop 4)).flatten.flatten.length=(F.groups.map fun g=>(g.2.map List.length).sum).sum:=by rw[qbv];have e:=congrArg (fun z=>(z.map List.sum).sum) r;simpa[List.map_map,Function.comp_def] using e
 refine⟨by omega,by omega,by omega,fun X d=>⟨(f X d).1,fun x m=>⟨((f X d).2 x m).1,fun p i=>?_⟩⟩⟩;have:=(zkj (G:=F.groups) (x:=b.drop 4) (p:=p) (by rw[qvh];exact⟨x,by rw[qvh];exact⟨X,d,m⟩,i⟩)).2
 rw[qqw] at this;omega
def zse(b:List Nat):Prop:=b.length<=140737488351232/\ ∀F s,openO b=some (F,s)->s.length<=9000000/\(ze9 F.groups (b.drop 4)).flatten.flatten.length<=1000000/\ ∀p∈(ze9 F.groups (b.drop 4)).flatten.flatten,p.length<=9000000
theorem zln{b:List Nat}(c:∀x∈b,x<256)(q:b.length<=1000000):zse b:=by refine⟨by omega,fun F s d=>?_⟩;obtain⟨a,f,g,h,i,j,k⟩:=zga c (by omega) d;obtain⟨l,m,n,o⟩:=zve b a;refine⟨by omega,by omega,fun p e=>?_⟩;have:=(zkj e).2;rw[qqw] at this;omega
open Go.RowKit Go.Hm
noncomputable def zym(b:List Nat)(F:FootS)(g c p:Int):Option (List Nat):=
 if zfm F g c p<0\/(F.groups.length:Int)<=g then none
 else if(b.length:Int)<4+zfm F g c p+((zax F.groups g.toNat c.toNat).getD p.toNat zby).1 then none
 else some ((b.drop (4+(zfm F g c p).toNat)).take ((zax F.groups g.toNat c.toNat).getD p.toNat zby).1.toNat)
theorem qcy{F:FootS}{g c p:Int}(h:0<=zfm F g c p)(l:g<(F.groups.length:Int)):
 zbs F/\ ∃gk b pk:Nat,g=(gk:Int)/\c=(b:Int)/\p=(pk:Int)/\gk<F.groups.length/\b<F.cols.length/\pk<(zax F.groups gk b).length:=by
 unfold zfm at h;split at h
 ·rename_i i
  rw[qsl,qs8,qsl] at i;obtain⟨e,a⟩:=i;have d:zbs F:=by unfold ze6 at e;simpa using e
  rcases a with a|⟨a,f⟩
  ·unfold qgz at a
   simp only[decide_eq_true_eq] at a;omega
  ·obtain⟨gk,b,rfl,rfl,j,k⟩:=qbb a
   unfold pgB at f;simp only[decide_eq_true_eq,qrn] at f;exact⟨d,gk,b,p.toNat,rfl,rfl,by omega,j,k,by omega⟩
 ·omega
theorem z3o{F:FootS}(h:zbs F){gk a pk:Nat}(d:gk<F.groups.length)(f:a<F.cols.length)(g:pk<(zax F.groups gk a).length):zfm F (gk:Int) (a:Int) (pk:Int)=zda F.groups gk a pk:=by
 unfold zfm;have e:ze6 F=true:=by unfold ze6;simpa using h
 have b:inB F.cols.length F.groups.length (gk:Int) (a:Int)=true:=by unfold inB;simp;omega
 have c:pgB (zax F.groups gk a).length (pk:Int)=true:=by unfold pgB;simp;omega
 simp only[e,b,qrn,c,qvu,Bool.or_true,if_true]
def qhv(o:Option (List Nat))(w:World)(e:Ending)(w':World):Prop:=
 New w w'/\match o with
 |none=>e= .returned (.tuple #[.slice none 0 0,.bool false])
 |some x=>∃A n c,e= .returned (.tuple #[.slice A n c,.bool true])/\Go.Hm.Own w' w.heap.size 5 (.slice A n c) (zar .u8 x)
theorem qhw{w:World}{A:Option Addr}{cb:Nat}{b:List Nat}{Ac:Option Addr}{cc:Nat}{L:List za2}{r:Int}{Ag:Option Addr}{cg:Nat}{G:List GrD}{g c p:Int}
 (hb:Reads w w.heap.size 1 A b.length (zar .u8 b))(y:b.length<=cb)
 (h:FootIn w Ac cc L Ag G)(hp:∀g∈G,∀x∈g.2.2.2,∀p∈x.2.2,zew p.2.2):
 Calls Tryz.prog 33 #[.slice A b.length cb,zmp Ac cc L r Ag cg G,.int .i64 g,.int .i64 c,.int .i64 p] w (qhv (zym b (zb0 L r G) g c p) w):=by
 have b0:New w (w.alloc (.cells #[.slice Ac L.length cc,.int .i64 r,.slice Ag G.length cg] 79)):=(qwd _ _).alloc (qq0 _) _;have Y:=qw1 w 79 #[.slice Ac L.length cc,.int .i64 r,.slice Ag G.length cg];have PL:=qwk (fun(W:World) (hW:New w W)=>zxo (r:=r) (cc:=cc) (cg:=cg) (g:=g) (c:=c) (p:=p) (h.later hW) hp);have E:= @qcy (zb0 L r G) g c p;have d:(zb0 L r G).groups.length=G.length:=by unfold zb0;simp
 obtain⟨X,f⟩:∃X,X=zym b (zb0 L r G) g c p:=⟨_,rfl⟩;rw[<-f];unfold zym at f;rw[d] at f E;generalize J:zfm (zb0 L r G) g c p=V at*;unfold zmp at PL⊢;obtain⟨x0,x1,x2⟩:=zan Y;replace f:=qwk f;replace E:=qwk E;replace J:=qwk J;have Z:=qwk h;have HR:=qwk hb;clear h hb hp;go_enter Tryz.func33,Tryz.ntmps33
 go_wp2_with fail
 refine(PL.out _ b0).mono ?_;rintro e U ⟨rfl,b1⟩;have a:=qw5 b0 b1;have B1:=Y.below b1 Y.lt;clear PL x0 x1 x2 Y b0 b1;obtain⟨x0,x1,x2⟩:=zan B1;by_cases n:V<0
 ·have v:X=none:=by rw[f.out,if_pos (.inl n)]
  subst v;clear f E J Z HR d;go_wp2_with fail
  go_ret2
  exact⟨a,rfl⟩
 ·by_cases hg:(G.length:Int)<=g
  ·have v:X=none:=by rw[f.out,if_pos (.inr hg)]
   subst v;have a0:0<=V:=by omega
   clear f E J Z HR n d;go_wp2_with fail
   go_ret2
   exact⟨a,rfl⟩
  ·have u:=f.out
   rw[if_neg (by omega)] at u;obtain⟨o,gk,s,pk,rfl,rfl,rfl,l,I,t⟩:=E.out (by omega) (by omega);have C:=J.out;rw[z3o o (by rw[d];exact l) I t] at C;have B:=zlm o (by rw[d];exact l) I t;rw[C] at B;have Q:(G.getD gk grZ).2.2.2.length=L.length:=by have:=(zc5 o (k:=gk) (by rw[d];exact l)).2.1;unfold zb0 at this;dsimp only at this;rw[zbm grP G grZ zao l] at this;unfold grP at this;simpa using this
   have I:s<L.length:=I;have S:zax (zb0 L r G).groups gk s=((G.getD gk grZ).2.2.2.getD s chZ).2.2:=by unfold zax zb0;dsimp only;rw[zbm grP G grZ zao l];exact zbm (fun x:ChD=>x.2.2) (G.getD gk grZ).2.2.2 chZ [] (by omega)
   simp only[qrn] at u;rw[S] at u t B;have H:=Z.out.later a;have M:=qxj HR.out a;have z:G.getD gk grZ∈G:=zah grZ l;obtain⟨F,_⟩:=H.chunks _ z;have m:(G.getD gk grZ).2.2.2.getD s chZ∈(G.getD gk grZ).2.2.2:=zah chZ (by omega);obtain⟨q,_⟩:=H.pages _ z _ m;obtain⟨ag,rfl,_,g0,g1⟩:=H.groups.gr2 l;have R:=H.few2;generalize G.getD gk grZ=gd at*;obtain⟨gr,a1,a2,D⟩:=gd;dsimp only at F Q m q g0 g1 u B t;obtain⟨ac,rfl,_,d0⟩:=F.ch1 (i:=s) (by omega);generalize D.getD s chZ=cd at*;obtain⟨Ap,cp,P⟩:=cd;dsimp only at q d0 u B t;obtain⟨ap,rfl,_,p0,_⟩:=q.page14 t;have T:P.length<=4611686018427387903:=by omega
   generalize(P.getD pk zby).1=sz at*;obtain⟨vn,rfl⟩:=qsu (show 0<=V by omega);obtain⟨sn,rfl⟩:=qsu (show 0<=sz by omega);have k1:vn+sn<=1073741824:=by have:=B.2.1;have:=B.2.2.1;omega
   simp only[qrn] at u;have HX:=qwk u;have K:=qwk m;have O:s<D.length:=by omega
   have N:D.length<=4611686018427387903:=by have:=H.few;omega
   have j1:(0:Int)<=(vn:Int):=by omega
   have j2:(gk:Int)<(G.length:Int):=by omega
   have j3:(s:Int)<(D.length:Int):=by omega
   have j4:(pk:Int)<(P.length:Int):=by omega
   have j5:(vn:Int)+(sn:Int)<=1073741824:=by omega
   replace M:=qwk M;clear f E J Z HR d B C o S u m H F q z Q;by_cases hs:(b.length:Int)<4+(vn:Int)+(sn:Int)
   ·have v:X=none:=by rw[HX.out,if_pos hs]
    subst v;have j:=qwk a;clear n hg M HX K l I t y T O N k1 R a;go_wp2_with fail
    go_ret2
    exact⟨j.out,rfl⟩
   ·have v:X=some ((b.drop (4+vn)).take sn):=by rw[HX.out,if_neg hs]
    subst v;have a3:4+(vn:Int)+(sn:Int)<=(b.length:Int):=by omega
    have S1:(Instr.sliceAt 24 (.slice A b.length cb) (some (.int .i64 (4+(vn:Int)))) (some (.int .i64 (4+(vn:Int)+(sn:Int)))) none).run Tryz.prog U= .ok (.slice (if cb=4+vn then A else A.map (·.add ((4+vn)*1))) sn (cb-(4+vn))) U:=by have:=zh7 zyb zyc A b.length cb (4+vn) (4+vn+sn) (by omega) (by omega) U;rwa[show((4+vn:Nat):Int)=4+(vn:Int) by omega,show((4+vn+sn:Nat):Int)=4+(vn:Int)+(sn:Int) by omega,show 4+vn+sn-(4+vn)=sn by omega] at this
    have R1:Reads U U.heap.size 1 (if cb=4+vn then A else A.map (·.add ((4+vn)*1))) sn (zar .u8 ((b.drop (4+vn)).take sn)):=by have:=(M.out.cut (k:=4+vn) (cap:=cb) (by omega) y).take (k:=sn) (by omega);simpa only[qq7,zeq,zfa] using this
    have CL:=qwk (zht (c:=cb-(4+vn)) R1 (by omega));generalize(if cb=4+vn then A else A.map (·.add ((4+vn)*1)))=A2 at*;generalize cb-(4+vn)=c2 at*;have j:=qwk a;clear n hg M HX K l I t y T O N k1 R a R1 hs;go_wp2_with fail
    refine CL.out.mono ?_;rintro e w2 ⟨A3,n3,c3,rfl,o3,b2⟩;clear CL S1;go_wp2_with fail
    go_ret2
    exact⟨qw5 j.out b2,A3,n3,c3,rfl,o3.base_le j.out.size⟩
section
variable{ops:Array Oper}{rest:List Oper}{o:Oper}{a:Act}{Q:Exit->Act->World->Prop}
theorem zrx{w:World}(e:o.guard=none)(s x:Operand)(p:o.op= .call {callee:= .builtin .append,args:= #[s,x],argTypes:= #[tS,tS]})
 {base n m c:Nat}{v:Value}{xs:List Value}{P:List (List Nat)}{A:Option Addr}(d:w.ownsRow base tD 32 v n xs)(q:Reads w w.heap.size 32 A m (recs zi6 P))(r:a.eval s=v)(t:a.eval x= .slice A m c)
 (b:base<=w.heap.size)(u:n+m<=100000)
 (h:∀A' c' w',n+m<=c'->c'<=maxLen->w'.ownsRow base tD 32 (.slice A' (n+m) c') (n+m) (xs++recs zi6 P)->w.grownBy w' v.ownBlock->wpList Tryz.prog ops Q rest (a.put o.dst (.slice A' (n+m) c')) w'):
 wpList Tryz.prog ops Q (o::rest) a w:=
 wpList_plain e fun _ l=>zy9 elD s x p d q r t (qwd 0 w) (qq1 _) b (qh0 _) (by omega) (by simp only[maxLen];omega) fun A' c' w' f i j k _=>l _ _ (h A' c' w' f i j k)
end
def ChSt(w0:World)(base g:Nat)(V:Value)(v:Value)(F P:List (List Nat))(W:World):Prop:=
 ∃V',LogOf tL W base g V' F/\(V'.ownBlock=V.ownBlock\/ ∃h,V'.ownBlock=some h/\w0.heap.size<=h)/\Turns (g::zbt V) w0 W/\W.ownsRow w0.heap.size tD 32 v P.length (recs zi6 P)
theorem qh3{W W':World}{base b g n:Nat}{V v:Value}{F:List (List Nat)}{xs:List Value}(o:W.ownsRow b tD 32 v n xs)(l:LogOf tL W base g V F)(t:Turns (g::zbt V) W W'):W'.ownsRow b tD 32 v n xs:=by
 refine zp7 o t (fun x d=>?_);obtain⟨A,n,c,D,rfl,e,f,_⟩:=l;rcases qsm.1 d with rfl|d
 ·exact zat o e (by decide)
 ·exact zp8 o f (by decide) x d
theorem qh4{W W':World}{base b g n:Nat}{V v:Value}{F:List (List Nat)}{xs:List Value}(l:LogOf tL W base g V F)(o:W.ownsRow b tD 32 v n xs)(gr:W.grownBy W' v.ownBlock):LogOf tL W' base g V F:=by have i:Turns (zbt v) W W':=qxl gr;obtain⟨c,h,d,D,rfl,e,f,m,k⟩:=l;have l:LogOf tL W base g (.slice c h d) F:=⟨c,h,d,D,rfl,e,f,m,k⟩;exact l.turn i (zfo o e (by decide)) (zp8 f o (by decide)) (fun x p _ q j=>zfo o j (by decide) p)
section
variable{w0 W W':World}{base g:Nat}{V v:Value}{F F2 P:List (List Nat)}
theorem ChSt.first(h:LogOf tL w0 base g V F):ChSt w0 base g V (.slice none 0 0) F [] w0:=⟨V,h,.inl rfl,qxc _ _,⟨rfl,.inl ⟨rfl,rfl⟩⟩⟩
theorem ChSt.turn(h:ChSt w0 base g V v F P W){c b:Value}(d:LogOf tL W base g c F)(l2:LogOf tL W' base g b F2)(f:b.ownBlock=c.ownBlock\/ ∃h,b.ownBlock=some h/\W.heap.size<=h)(e:Turns (g::zbt c) W W'):ChSt w0 base g V v F2 P W':=by obtain⟨i,l,a,t,o⟩:=h;obtain rfl:=qc1 l d;exact⟨b,l2,zgq t.size a f,zbw t a e,qh3 o d e⟩
theorem ChSt.new(h:ChSt w0 base g V v F P W)(k:New W W'):ChSt w0 base g V v F P W':=by obtain⟨b,l,a,t,o⟩:=h;exact⟨b,l.new k,a,t.trans (qxe k),zba o k⟩
theorem ChSt.push(h:ChSt w0 base g V v F P W){A':Option Addr}{c n:Nat}{b:List (List Nat)}(i:W'.ownsRow w0.heap.size tD 32 (.slice A' n c) n (recs zi6 b))(e:n=b.length)(gr:W.grownBy W' v.ownBlock):ChSt w0 base g V (.slice A' n c) F b W':=by subst e;obtain⟨d,l,a,t,o⟩:=h;exact⟨d,qh4 l o gr,a,qc0 t (qxl gr) (fun x f=>(zp6 o x f).1),i⟩
theorem ChSt.join{b:World}{f:Value}{d:List (List Nat)}(h:ChSt w0 base g V v F P b){c:Value}(e:LogOf tL b base g c F)(k:ChSt b base g c f F2 d W):ChSt w0 base g V v F2 P W:=by obtain⟨i,l,a,t,o⟩:=k;exact h.turn e l a t
end
theorem qc5{w w':World}{A:Option Addr}{b:List Nat}{T:List Nat}{r:zjv}(p:∀x∈T,x<w.heap.size)(c:0<b.length-> ∀ad,A=some ad->ad.block∉T)(h:RowBIn w' r/\ ∀ad,r.1=some ad->w.heap.size<=ad.block)(m:∀d∈r.2.2,PieceOf A w' d)
 (n:∀d∈r.2.2,(∀x∈d.2.2,x<256)/\d.2.2.length<=b.length/\d.2.2.length<=9000000):DataF w' r.1 r.2.2 T:=by
 refine⟨h.1,fun _ ad f e=>?_,fun d i=>?_⟩
 ·have:=h.2 ad f
  have:=p _ e;omega
 ·obtain⟨⟨q,s,t⟩,u⟩:=m d i
  obtain⟨y,C,z⟩:=n d i;refine⟨q,fun B ad f e=>?_,s,t,y,z⟩;obtain⟨j,k,l⟩:=u ad f;rw[l] at e;exact c (by omega) j k e
theorem qh5{W:World}{base b g n c:Nat}{V:Value}{F:List (List Nat)}{A:Option Addr}{xs:List Value}(h:Go.Hm.Own W base 5 (.slice A n c) xs)(l:LogOf tL W b g V F):0<xs.length-> ∀ad,A=some ad->ad.block∉g::zbt V:=by
 intro s ad k;subst k;unfold Go.Hm.Own at h;rcases h.2 with⟨e,t⟩|⟨j,i,d,p,_,m,_⟩
 ·omega
 ·injection p with f q r
  injection f with f;subst f;exact l.notT (show Blk W j 5 d from m) (by decide) (by decide)
theorem zia{P:Program}{c:Func}{p q:Tmp}{ty:TypeId}(h:c.results= #[.cell p ty,.tmp q])(tmps:Array Value)(w:World)(g:Nat)(t:TypeId)(cs:Array Value)(e:Nat × Nat)(d:TypeDesc)
 (j:tmps.getD p undef= .pointer (some ⟨g,0,none⟩))(i:w.heap[g]? =some (.cells cs t e))
 (k:P.underlying ty=some d)(f:(match d with| .struct _| .array _ _=>true|_=>false)=true)(hi:(P.info? ty).map (·.size)=some cs.size):
 (results c tmps).run P w= .ok (.tuple #[.agg cs,tmps.getD q undef]) w:=by
 have b:tmps[p]?.getD undef= .pointer (some ⟨g,0,none⟩):=by simpa using j
 simp[results,h,b,asAddr,run_loadVar_row w g t ty cs e d i k f hi]
noncomputable def zvw(b:List Nat):List Nat:=match openO b with|none=>List.replicate 32 0|some x=>zrh x.1.groups b x.2
noncomputable def zyx(b:List Nat):Int:=match openO b with|none=>2|some _=>0
noncomputable def zpp(b:List Nat):List (List Nat):=match openO b with|none=>[]|some x=>zo1 x.1.groups b x.2
theorem zhf(b:List Nat):zna (zvw b):=by
 unfold zvw;split
 ·exact⟨rfl,fun x c=>by have:=(qs3.1 c).2;omega⟩
 ·exact zcg _ _
theorem z3u{b:List Nat}(h:zyx b=0):∃F s,openO b=some (F,s)/\zvw b=zrh F.groups b s/\zpp b=zo1 F.groups b s:=by
 unfold zyx at h;cases ho:openO b with
 |none=>rw[ho] at h;cases h
 |some x=>exact⟨x.1,x.2,rfl,by unfold zvw;rw[ho],by unfold zpp;rw[ho]⟩
theorem qc6{b:List Nat}{F:FootS}{s:List Nat}(c:openO b=some (F,s)):zyx b=0/\zvw b=zrh F.groups b s/\zpp b=zo1 F.groups b s:=by unfold zyx zvw zpp;rw[c];exact⟨rfl,rfl,rfl⟩
theorem z3v{b:List Nat}(c:openO b=none):zvw b=List.replicate 32 0/\zyx b=2/\zpp b=[]:=by unfold zvw zyx zpp;rw[c];exact⟨rfl,rfl,rfl⟩
def qjh(b:List Nat)(base g:Nat)(V:Value)(F:List (List Nat))(w:World):Ending->World->Prop:=zf3 tL (.tuple #[dV (zvw b),.int .i64 (zyx b)]) base g V (F++zpp b) w
end Go.Proofs.Y
