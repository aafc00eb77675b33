import Derived.Test.YtbahbnbpmfgimaaGreatDoorBun38
set_option maxHeartbeats 8000000
set_option maxRecDepth 100000
namespace Go.Proofs.Y
open Go.RowKit Go.Hm
def encOf(t e:Int)(l:List zab):Int:=if e= -1 then bestV t (zcc l) else e
def pgE(t:Int)(nu:Bool)(e:Int)(l:List zab):Int × List Nat:=
 if¬(0<=t/\t<=3)\/(e≠ -1/\fitsV t e=false) then(3,[])
 else if 65536<l.length then(4,[])
 else if(l.all fun c=>zad c t nu)=true then
  (match zez t (encOf t e l) (zcc l) with
  |some d=>(0,(encOf t e l).toNat::(vp l.length++((if nu=true then zcb l else [])++d)))
  |none=>(1,[]))
 else(1,[])
theorem ztc{l:List zab}{t:Int}{nu:Bool}(h:∀c∈l,zad c t nu=true):∀c∈zcc l,zad c t false=true:=fun c a=>by
 unfold zcc at a;rw[qvw] at a;have b:=h c a.1;have d:c.1=false:=by simpa using a.2
 unfold zad at b⊢;rw[d] at b⊢;exact b
theorem ztd{c:zab}{t:Int}{nu:Bool}(h:zad c t nu=true)(a:c.1=true):c=nullC/\nu=true:=by
 obtain⟨j,d,f,g,i⟩:=c;dsimp only at a;subst a;have e:nu=true/\d=0/\f=[]/\g=0/\i=0:=by simpa[zad] using h
 obtain⟨b,rfl,rfl,rfl,rfl⟩:=e;exact⟨rfl,b⟩
theorem z5x{l:List zab}{t:Int}{nu:Bool}(h:∀c∈l,zad c t nu=true):l.map zxe=l:=by
 conv=>rhs;rw[<-qua l]
 refine qsk fun c a=>?_
 unfold zxe;split
 ·rename_i b
  exact(ztd (h c a) b).1.symm
 ·rfl
theorem zxg{c:zab}{t:Int}(nu:Bool)(h:zad c t false=true):zad c t nu=true:=by have a:=zhz h;unfold zad at h⊢;rw[a] at h⊢;exact h
theorem z2w{l:List zab}{t:Int}(h:∀c∈l,zad c t false=true):zcc l=l:=by unfold zcc;rw[List.filter_eq_self];intro c a;rw[zhz (h c a)];rfl
theorem z0f{l:List zab}{t:Int}{nu:Bool}(a:0<=t/\t<=3)(b:l.length<=65536)(h:∀c∈l,zad c t nu=true):zjk t (zcc l)=true:=
 plOk_iff.2 ⟨⟨a.1,a.2,qqs (zph l) b⟩,ztc h⟩
theorem zol{t:Int}{nu:Bool}{e:Int}{l:List zab}{b:List Nat}(h:pgE t nu e l=(0,b)):
 (0<=t/\t<=3)/\l.length<=65536/\(∀c∈l,zad c t nu=true)/\fitsV t (encOf t e l)=true/\ ∃d,zez t (encOf t e l) (zcc l)=some d/\b=(encOf t e l).toNat::(vp l.length++((if nu=true then zcb l else [])++d)):=by
 unfold pgE at h;split at h
 ·injection h with h _
  omega
 ·rename_i f
  split at h
  ·injection h with h _
   omega
  ·rename_i k
   split at h
   ·rename_i a
    rw[qs9] at a;have g:0<=t/\t<=3:=by
     by_cases q:0<=t/\t<=3
     ·exact q
     ·exact absurd (.inl q) f
    split at h
    ·rename_i d i
     injection h with _ h;refine⟨g,by omega,a,?_,d,i,h.symm⟩;unfold encOf;split
     ·exact(zq3 (z0f g (by omega) a)).1
     ·rename_i j
      cases hf:fitsV t e with
      |true=>rfl
      |false=>exact absurd (.inr ⟨j,hf⟩) f
    ·injection h with h _
     omega
   ·injection h with h _
    omega
theorem qgt{t:Int}{nu:Bool}{e:Int}{l:List zab}{b:List Nat}(h:pgE t nu e l=(0,b)):pgE t nu (encOf t e l) l=(0,b):=by
 obtain⟨k,m,j,c,d,i,g⟩:=zol h;have a:encOf t e l≠ -1:=by have:=(ziz c).1;omega
 have f:encOf t (encOf t e l) l=encOf t e l:=by show(if encOf t e l= -1 then _ else _)=_;rw[if_neg a]
 rw[pgE,if_neg (by rintro(q|⟨_,q⟩);exact q k;rw[c] at q;cases q),if_neg (by omega),if_pos (qs9.2 j),f,i,g]
structure IsPg(t:Int)(nu:Bool)(b:List Nat)(o:Option (List zab)):Prop where
 sound:∀l,o=some l->(∃e,fitsV t e=true/\pgE t nu e l=(0,b))/\ ∀c∈l,zaj c
 compl:∀l,(∀c∈l,zaj c)->(∃e,fitsV t e=true/\pgE t nu e l=(0,b))->o=some l
theorem IsPg.uniq{t:Int}{nu:Bool}{b:List Nat}{o p:Option (List zab)}(h:IsPg t nu b o)(k:IsPg t nu b p):o=p:=by
 cases o with
 |some l=>obtain⟨a,c⟩:=h.sound l rfl;exact(k.compl l c a).symm
 |none=>
  cases p with
  |none=>rfl
  |some l=>obtain⟨a,c⟩:=k.sound l rfl;exact h.compl l c a
theorem zjq{l:List zab}(h:∀c∈l,zaj c):∀c∈zcc l,zaj c:=fun c a=>h c (by unfold zcc at a;exact(qvw.1 a).1)
theorem qa6:zaj nullC:=⟨⟨by simp[nullC],by simp[nullC]⟩,by simp[nullC]⟩
theorem zq4(S:St):zbn S=(0,none)\/ ∃y r,S=some (y::r)/\zbn S=(y,some r):=by
 unfold zbn;split
 ·rename_i y r
  exact .inr ⟨y,r,rfl,rfl⟩
 ·exact .inl rfl
def qo7(t:Int)(e:Nat)(S:St)(ov:Option (List zab)):Option (List zab):=if S=none\/fitsV t (e:Int)=false then none else ov
theorem qgu{t:Int}{b x:List Nat}{e n:Nat}{S1 S2:St}{E:Option (List zab)}(H:∀x∈b,x<256)
 (k1:zbn (some b)=(e,S1))(k2:lenS 65536 S1=(n,S2))(o:S2.getD []=x)(A:fitsV t (e:Int)=true->IsVal t (e:Int) x (n:Int) E):IsPg t false b (qo7 t e S2 E):=by
 constructor
 ·intro l k
  unfold qo7 at k;split at k
  ·cases k
  ·rename_i D
   have a:fitsV t (e:Int)=true:=by
    cases q:fitsV t (e:Int) with
    |true=>rfl
    |false=>exact absurd (.inr q) D
   have B:S2≠none:=fun q=>D (.inl q)
   obtain⟨R,F,O⟩:=(A a).sound l k;obtain⟨⟨L,M,w⟩,m⟩:=plOk_iff.1 (zq2 F);have c:(e:Int)≠ -1:=by omega
   refine⟨⟨(e:Int),a,?_⟩,O⟩;have j:encOf t (e:Int) l=(e:Int):=by unfold encOf;rw[if_neg c]
   rw[pgE,if_neg (by rintro(q|⟨_,q⟩);exact q ⟨L,M⟩;rw[a] at q;cases q),if_neg (by omega),if_pos (qs9.2 m),j,z2w m,F];dsimp only;rw[if_neg (by simp),qrr,qrn];congr 1
   rcases zq4 (some b) with q|⟨y,r,s,q⟩
   ·rw[q] at k1
    injection k1 with _ k1;subst k1;rw[zhu] at k2;injection k2 with _ k2;exact absurd k2.symm B
   ·rw[q] at k1
    injection k1 with k1 f;subst k1 f;injection s with s;rcases zbx 65536 (some r) (qxp fun z K=>H z (by rw[s];simp[K])) with p|⟨N,r1,u,p1,_,p⟩
    ·rw[p] at k2
     injection k2 with _ k2;exact absurd k2.symm B
    ·rw[p] at k2
     injection k2 with k2 g;subst k2 g;injection u with u;simp only[qsi] at o;rw[s,u,o,show l.length=N by omega]
 ·rintro l J ⟨h,a,I⟩
  obtain⟨Q,w,m,-,d,i,C⟩:=zol I;have c:h≠ -1:=by have:=(ziz a).1;omega
  have j:encOf t h l=h:=by unfold encOf;rw[if_neg c]
  have v:=z2w m;rw[j,v] at i;rw[j,if_neg (by simp),qrr] at C;rw[C] at k1;simp only[zbn] at k1;injection k1 with k1 f;subst k1 f;rw[zb9 _ _ (by omega) (by omega)] at k2;injection k2 with k2 g;subst k2 g;simp only[qsi] at o;subst o;have P:=(ziz a).1;have G:((h.toNat:Nat):Int)=h:=by omega
  unfold qo7;rw[G] at A⊢;rw[if_neg (by rintro(q|q);cases q;rw[a] at q;cases q)];exact(A a).compl l J rfl i
def qo8(t:Int)(e:Nat)(S:St)(U:Option (List Nat))(ov:Option (List zab)):Option (List zab):=if S=none\/fitsV t (e:Int)=false then none else match ov with|none=>none|some r=>qgs U r
theorem qgv{t:Int}{b f x:List Nat}{e n:Nat}{S1 S2 L:St}{Z:Option (List zab)}(h8:∀x∈b,x<256)
 (k1:zbn (some b)=(e,S1))(k2:lenS 65536 S1=(n,S2))(a:zcv (((n+7)/8:Nat):Int) S2=(f,L))(K:L.getD []=x)(J:fitsV t (e:Int)=true->IsVal t (e:Int) x (qgr (zch f 1 (n:Int))) Z):IsPg t true b (qo8 t e L (zch f 1 (n:Int)) Z):=by
 constructor
 ·intro l g
  unfold qo8 at g;split at g
  ·cases g
  ·rename_i o
   have s:fitsV t (e:Int)=true:=by
    cases q:fitsV t (e:Int) with
    |true=>rfl
    |false=>exact absurd (.inr q) o
   have T:L≠none:=fun q=>o (.inl q)
   cases Z with
   |none=>cases g
   |some r=>
    dsimp only at g;obtain⟨v1,v2,v3⟩:=(J s).sound r rfl;obtain⟨⟨t0,t1,D⟩,X⟩:=plOk_iff.1 (zq2 v2);cases hU:zch f 1 (n:Int) with
    |none=>rw[hU] at g;cases g
    |some m=>
     rw[hU] at g;unfold qgs at g;dsimp only at g;split at g
     ·rename_i H
      have k:∀z∈f,z<256:=by
       intro z j;rcases zcl (((n+7)/8:Nat):Int) S2 with p|⟨l2,p1,_,_,p⟩
       ·rw[p] at a
        injection a with a _;rw[<-a] at j;cases j
       ·rw[p] at a
        injection a with a _;rw[<-a] at j;have j:=qro j;have F:St.ok S2:=by
         have:=zbo (m:=65536) (S:=S1) (by have:=z9a (S:=some b) (qxp h8);rw[k1] at this;exact this)
         rw[k2] at this;exact this
        exact F l2 p1 z j
      obtain⟨u1,u2,u3,u4⟩:=qa5 k hU;obtain⟨s1,Q,s3⟩:=znr m r l u3 H g;have j:l.map zxe=l:=by have:=zta l;rw[s1,Q,g] at this;injection this with this;exact this.symm
      have E:l.length<=65536:=by omega
      have U:f=zcb l:=by have:=ztb E;rw[s1,u1] at this;injection this
      have G:∀c∈l,zad c t true=true:=by
       intro c o;cases hn:c.1 with
       |true=>
        obtain⟨i,hi,rfl⟩:=qtv o;have O:(l.map zxe)[i]'(by simpa using hi)=l[i]:=by simp only[j]
        rw[qsf] at O;unfold zxe at O;rw[hn] at O;rw[<-O];simp[zad,nullC]
       |false=>
        refine zxg true (X c ?_);rw[<-Q];unfold zcc;rw[qvw];exact⟨o,by simp[hn]⟩
      have W:∀c∈l,zaj c:=by
       intro c o;cases hn:c.1 with
       |true=>
        rw[(ztd (G c o) hn).1];exact qa6
       |false=>
        refine v3 c ?_;rw[<-Q];unfold zcc;rw[qvw];exact⟨o,by simp[hn]⟩
      refine⟨⟨(e:Int),s,?_⟩,W⟩;have u:(e:Int)≠ -1:=by omega
      have M:encOf t (e:Int) l=(e:Int):=by unfold encOf;rw[if_neg u]
      rw[pgE,if_neg (by rintro(q|⟨_,q⟩);exact q ⟨t0,t1⟩;rw[s] at q;cases q),if_neg (by omega),if_pos (qs9.2 G),M,Q,v2];dsimp only;rw[if_pos rfl,qrn];congr 1
      rcases zq4 (some b) with q|⟨y,rr,P,q⟩
      ·rw[q] at k1
       injection k1 with _ k1;subst k1;rw[zhu] at k2;injection k2 with _ k2;subst k2;rw[zeh] at a;injection a with _ a;exact absurd a.symm T
      ·rw[q] at k1
       injection k1 with k1 v;subst k1 v;injection P with P;rcases zbx 65536 (some rr) (qxp fun z j=>h8 z (by rw[P];simp[j])) with p|⟨N,r1,R,p1,_,p⟩
       ·rw[p] at k2
        injection k2 with _ k2;subst k2;rw[zeh] at a;injection a with _ a;exact absurd a.symm T
       ·rw[p] at k2
        injection k2 with k2 w;subst k2 w;injection R with R;rcases zcl (((N+7)/8:Nat):Int) (some r1) with p2|⟨l2,p3,_,p4,p2⟩
        ·rw[p2] at a
         injection a with _ a;exact absurd a.symm T
        ·rw[p2] at a
         injection a with a A;injection p3 with p3;subst p3;rw[<-A] at K;simp only[qsi] at K;rw[P,R,show l.length=N by omega,<-U,<-a,<-K];simp
     ·cases g
 ·rintro l hd ⟨B,s,hB⟩
  obtain⟨ht,D,X,-,d,C,hb⟩:=zol hB;have u:B≠ -1:=by have:=(ziz s).1;omega
  have M:encOf t B l=B:=by unfold encOf;rw[if_neg u]
  rw[M] at C;rw[M,if_pos rfl] at hb;rw[hb] at k1;simp only[zbn] at k1;injection k1 with k1 v;subst k1 v;rw[zb9 _ _ (by omega) (by omega)] at k2;injection k2 with k2 w;subst k2 w;have Y:(zcb l).length=(l.length+7)/8:=by unfold zcb;rw[za0,zff,qt5]
  have I:=zea (zcb l) d;rw[Y] at I;rw[I] at a;injection a with a A;subst a A;simp only[qsi] at K;subst K;rw[zxf D] at J⊢;have V:qgr (some (zcn l))=((zcc l).length:Int):=by unfold qgr;dsimp only;rw[z2v]
  rw[V] at J;have h0:=(ziz s).1;have ee:((B.toNat:Nat):Int)=B:=by omega
  unfold qo8;rw[ee] at J⊢;rw[if_neg (by rintro(q|q);cases q;rw[s] at q;cases q),(J s).compl (zcc l) (zjq hd) rfl C];dsimp only;rw[joinO_eqP (z2v l),zta,z5x X]
where
 joinO_eqP {m:List Nat} {r:List zab} (h:m.sum=r.length):qgs (some m) r=zoz m r:=by rw[qgs];simp[h]
end Go.Proofs.Y
namespace Go.Hm
def headL_film:List Nat:=[72,89,80,79]
def tailL:List Nat:=[79,80,89,72]
def ownN(b:List Nat):Nat:=num ((b.drop (b.length-8)).take 4)
def zq5(b:List Nat):Option (List Nat):=
 if b.length<12\/b.take 4≠headL_film\/b.drop (b.length-4)≠tailL then none
 else if b.length-12<ownN b then none
 else some ((b.drop (b.length-8-ownN b)).take (ownN b))
theorem z2x{b s:List Nat}(h:zq5 b=some s):s.length=ownN b/\ownN b+12<=b.length:=by
 unfold zq5 at h;split at h
 ·cases h
 ·rename_i a
  split at h
  ·cases h
  ·injection h with h
   subst h;rw[qqx,qqw];omega
end Go.Hm
namespace Go.Proofs.Y
open Go.RowKit Go.Hm
def z6m:Nat->Nat
 |0=>134
 |1=>155
 |2=>157
 |3=>159
 |_=>161
def qnn:Nat->Nat
 |0=>154
 |1=>156
 |2=>158
 |3=>160
 |_=>162
def qpb(q:Nat):Value:= .agg #[.func (.func (z6m q)) #[] #[],.func (.func (qnn q)) #[] #[]]
theorem qmk:Maps.Keyed Tryz.prog 3:=Maps.int_keyed (show Tryz.prog.underlying 3=some (.int .i64) by kernel_rfl)
theorem z6n:Tryz.prog.underlying 206=some (.map 3 205):=by kernel_rfl
theorem zkm(k:Nat)(h:k<=4):∃kl,keyOf Tryz.prog 3 (.int .i64 (k:Int))=some kl:=
 ⟨_,Maps.keyOf_int_mk (show Tryz.prog.underlying 3=some (.int .i64) by kernel_rfl) (by simp[Lit.wf,IntKind.min,IntKind.max,IntKind.signed,IntKind.bits];omega)⟩
theorem z6o(W:World):(Instr.makeMap 206 none).run Tryz.prog W= .ok (.map (some W.heap.size)) (W.alloc (.map #[] 0)):=by simp[Instr.makeMap,Result.andThen]
def qll(w:World)(e:Ending)(w':World):Prop:=
 ∃b f,e= .returned (.map (some b))/\MapF_mapf Tryz.prog 3 qpb w' b 5 f/\(∀k:Nat,k<=4->f (k:Int)=some k)/\New w w'
theorem z0s{w:World}:Calls Tryz.prog 143 #[] w (qll w):=by
 have s:=z6o;have m:New w (w.alloc (.map #[] 0)):=(qwd _ _).alloc (qq0 _) _;have d:=MapF_mapf.made (P:=Tryz.prog) (k:=3) (F:=qpb) w;go_enter Tryz.func143,Tryz.ntmps143
 go_wp2_with (first
  |(refine zgz rfl (.tmp 1) _ (.tmp 2) 206 rfl qmk z6n d (by unfold maxLen;omega) (zkm 0 (by omega)) 0 rfl rfl rfl ?_
    intro u e n)
  |(refine zgz rfl (.tmp 1) _ (.tmp 3) 206 rfl qmk z6n e (by unfold maxLen;omega) (zkm 1 (by omega)) 1 rfl rfl rfl ?_
    intro v f o)
  |(refine zgz rfl (.tmp 1) _ (.tmp 4) 206 rfl qmk z6n f (by unfold maxLen;omega) (zkm 2 (by omega)) 2 rfl rfl rfl ?_
    intro x i p)
  |(refine zgz rfl (.tmp 1) _ (.tmp 5) 206 rfl qmk z6n i (by unfold maxLen;omega) (zkm 3 (by omega)) 3 rfl rfl rfl ?_
    intro y j q)
  |(refine zgz rfl (.tmp 1) _ (.tmp 6) 206 rfl qmk z6n j (by unfold maxLen;omega) (zkm 4 (by omega)) 4 rfl rfl rfl ?_
    intro z l r))
 go_ret
 have a:∀{b c:World},New w b->b.grownBy c (some w.heap.size)->New w c:=fun h g=>zbg h g (qq0 _) (qq0 _)
 exact⟨_,_,rfl,l,fun k t=>by rcases(by omega:k=0\/k=1\/k=2\/k=3\/k=4) with rfl|rfl|rfl|rfl|rfl<;> rfl,a (a (a (a (a m n) o) p) q) r⟩
def zvf(l:List zab):List (Int × Int):=l.map fun c=>(c.2.2.2.1,c.2.2.2.2)
theorem qhf(l:List zab):(zvf l).length=l.length:=by simp[zvf]
theorem qnp(l:List zab):(zvf l).map (·.1)=xsV l:=by unfold zvf xsV;rw[qsj];rfl
theorem qnq(l:List zab):(zvf l).map (·.2)=ysV l:=by unfold zvf ysV;rw[qsj];rfl
theorem zm4{l:List Int}(h:l.length<=65536):∃b,zql l=some b:=by unfold zql;rw[if_neg (by omega)];split<;> exact⟨_,rfl⟩
theorem qb0{S:List (Int × Int)}{k:Nat}(h:k<S.length):((S.take (k+1)).map (·.1))=(S.take k).map (·.1)++[(S.getD k (0,0)).1]:=by rw[zac S k (0,0) h];simp
theorem qb1{S:List (Int × Int)}{k:Nat}(h:k<S.length):((S.take (k+1)).map (·.2))=(S.take k).map (·.2)++[(S.getD k (0,0)).2]:=by rw[zac S k (0,0) h];simp
theorem zo2{w:World}{A:Option Addr}{n c:Nat}{L:List zab}(h:Reads w w.heap.size 5 A n (recs zay L))(hr:∀y∈L,zad y 3 false=true)(hn:n<=65536):
 Calls Tryz.prog 178 #[.slice A n c] w (OptX (encPts L) w):=by
 obtain rfl:=h.lenCell;have HR:=qwk h;obtain⟨S,hS⟩:∃S,S=(zkx 0 (xsV L)).zip (zkx 0 (ysV L)):=⟨_,rfl⟩;have a9:zgw (0,0) (zvf L)=some S:=by
  rw[hS,zxd (zvf L) (0,0) (fun p hp=>by obtain⟨c,hc,rfl⟩:=qqu.1 hp;have:=zoh (hr c hc);exact inBox_iff.2 (by dsimp only;omega)),qnp,qnq]
 have f5:(zkx 0 (xsV L)).length=L.length:=by rw[zhd];simp[xsV]
 have f6:(zkx 0 (ysV L)).length=L.length:=by rw[zhd];simp[ysV]
 have z:S.length=L.length:=by rw[hS,qvy];omega
 have b0:S.map (·.1)=zkx 0 (xsV L):=by rw[hS];exact List.map_fst_zip (by omega)
 have c0:S.map (·.2)=zkx 0 (ysV L):=by rw[hS];exact List.map_snd_zip (by omega)
 obtain⟨N,i2⟩:=qiv hr;obtain⟨a,ha⟩:=zm4 (l:=zkx 0 (xsV L)) (by omega);obtain⟨b,hb⟩:=zm4 (l:=zkx 0 (ysV L)) (by omega);have g4:=zis N ha;have g5:=zis i2 hb;have HE:Hid (encPts L=some (vp a.length++a++b)):=qwk (by unfold encPts;rw[ha,hb]);rw[<-b0] at N ha;rw[<-c0] at i2 hb;have HA:=qwk (qtc N ha);have HB:=qwk (qtc i2 hb);have PS:=fun(W:World) (A:Option Addr) (c:Nat) (hR:Reads W W.heap.size 2 A L.length (zdy (zvf L)))=>show Calls Tryz.prog 194 #[.slice A L.length c] W (qi7 (some S) W) from by have:=z6r (c:=c) hR (by omega);rw[a9] at this;exact this
 have PS:=qwk PS;have f1:=qwk z;clear h hr hS a9 f5 f6 b0 c0 N i2 ha hb z;have c1:New w w:=qw4 w;have e4:w.heap.size<=w.heap.size:=qq0 _;go_enter Tryz.func178,Tryz.ntmps178
 go_wp2_with (refine z0u qpc rfl (.tmp 17) (.tmp 17) rfl (W:=w) (B:=w.heap.size) L.length rfl rfl rfl rfl c1 e4 (by omega) (by simp only[maxLen];omega) ?_
              intro w1 o1 g1 b1 K)
 rw[z6t] at o1;clear c1 e4 g1;go_loopw [21] (fun i wr=>∃k:Nat,k<=L.length/\i= .int .i64 (k:Int)/\wr.ownsRow w.heap.size 73 2 (.slice (some ⟨w.heap.size,0,none⟩) L.length L.length) L.length (zdy (zvf (L.take k)++List.replicate (L.length-k) (0,0)))/\New w wr) (fun i _=>L.length-(intOf i).toNat)
 case atStart=>exact⟨0,qq1 _,rfl,by simpa[zvf] using o1,b1⟩
 case round=>
  clear o1 b1 K;obtain⟨k,hk,rfl,o,m⟩:=hrel;by_cases j:k<L.length
  ·obtain⟨ad,rfl,_,d0,d1,d2,d3,d4⟩:=(qxj HR.out m).cell5 j
   have M:zvf (L.take (k+1))=zvf (L.take k)++zvf [L.getD k (false,0,[],0,0)]:=by rw[zac L k (false,0,[],0,0) j];simp[zvf]
   have d7:(zvf (L.take k)).length=k:=by rw[qhf,qqx];omega
   have N:(k:Int)<(L.length:Int):=by omega
   generalize L.getD k (false,0,[],0,0)=x at*;obtain⟨xb,xn,xs,xx,xy⟩:=x;have M:zvf (L.take (k+1))=zvf (L.take k)++[(xx,xy)]:=M;dsimp only at d0 d1 d2 d3 d4;have b2:New wr (wr.alloc (.cells #[.bool xb,.int .i64 xn,.string (zaf xs),.int .i64 xx,.int .i64 xy] 75)):=(qwd _ _).alloc (qq0 _) _;have B2:=qw1 wr 75 #[.bool xb,.int .i64 xn,.string (zaf xs),.int .i64 xx,.int .i64 xy];rw[show L.length-k=(L.length-(k+1))+1 by omega,qs0] at o;have o2:=qwk (zba o b2);have f3:=qw5 m b2;obtain⟨p0,p1,p2,p3,p4⟩:=zc3 B2;have g0:(⟨w.heap.size,0,none⟩:Addr).add (k*2)=⟨w.heap.size,k*2,none⟩:=by unfold Addr.add;split<;> simp_all
   have f2:=qwk M;have f0:=qwk d7;clear M d7 o m b2 B2
   go_wp2_with (refine zx4 rfl 73 (.tmp 30) (.tmp 29) rfl (new:=(xx,xy)) o2.out f0.out j rfl rfl (by kernel_rfl) ?_
                intro w3 o3 g3)
   have b3:=qxa f3 g3 (qq0 _) (qq0 _);have o3:w3.ownsRow w.heap.size 73 2 (.slice (some ⟨w.heap.size,0,none⟩) L.length L.length) L.length (zdy (zvf (L.take (k+1))++List.replicate (L.length-(k+1)) (0,0))):=by rw[f2.out,qrc];exact o3
   go_roundw
   case rel=>exact⟨k+1,by omega,by go_num,o3,b3⟩
   case measure=>simp[intOf];omega
  ·obtain rfl:k=L.length:=by omega
   rw[quw,qsz,qup,qra] at o;have a5:=qwk (qwz o);clear o j;obtain⟨N,d6,e5,K,c2⟩:=info_parts elI.hi;have Y:=fun W=>run_make (P:=Tryz.prog) W 57 3 N _ elI.ht d6 e5 .i64 .i64 (L.length:Int) (L.length:Int) (by omega) (by omega) (by rw[c2];omega) (by omega)
   simp only[qrn,K] at Y;generalize a8:madeCells _ (L.length*1)=G at Y;have O:=qwk a8;clear a8 d6 e5 K c2;have BA:=qw1 wr 3 G;have BB:=qw1 (wr.alloc (.cells G 3)) 3 G;have v:=BA.alloc (.cells G 3);have C:New wr ((wr.alloc (.cells G 3)).alloc (.cells G 3)):=((qwd _ _).alloc (qq0 _) _).alloc (by simp) _;simp only[qww] at BB;go_upto_region 7 with fail
   go_cut [7,8] (fun s7 s8 wx=>∃d f:Nat,s7= .slice (some ⟨d,0,none⟩) L.length L.length/\s8= .slice (some ⟨f,0,none⟩) L.length L.length/\d≠f/\wr.heap.size<=d/\wr.heap.size<=f/\Blk wx d 3 G/\Blk wx f 3 G/\New wr wx)
   case first=>
    go_region
    all_goals
     go_wp2_with fail
     go_meet
     first
      |exact⟨wr.heap.size,wr.heap.size+1,rfl,rfl,by omega,by omega,by omega,v,BB,C⟩
      |exact⟨wr.heap.size+1,wr.heap.size,rfl,rfl,by omega,by omega,by omega,BB,v,C⟩
      |exact⟨wr.heap.size,wr.heap.size+1,rfl,rfl,by omega,by omega,by omega,v,BB,qw5 C (qw6 _)⟩
      |exact⟨wr.heap.size+1,wr.heap.size,rfl,rfl,by omega,by omega,by omega,BB,v,qw5 C (qw6 _)⟩
   case rest=>
    obtain⟨d,f,rfl,rfl,X,I,J,BX,BY,bx⟩:=hcut;have hz:=m.size;have D:∀g,wr.heap.size<=g->Blk wc g 3 G->Go.Hm.Own wc w.heap.size 3 (.slice (some ⟨g,0,none⟩) L.length L.length) (za5 .i64 (List.replicate L.length 0)):=by
     intro g hg hB;have e1:(za5 .i64 (List.replicate L.length 0)).length=L.length:=by rw[zib,qtd]
     unfold Go.Hm.Own;rw[e1];refine⟨by rw[e1,qq7],.inr ⟨g,L.length,G,rfl,by omega,hB,qq0 _,by simp only[maxLen];omega,by rw[<-O.out];simp[size_madeCells],?_⟩⟩;rw[<-O.out,qru (by simp[size_madeCells]),zeu];have:=toList_madeCells_one (.int .i64 0) (L.length*1);rw[qq7] at this⊢;exact this
    have t:=D d I BX;have u:=D f J BY;have bc:=qw5 m bx;have RC:=qxj a5.out bx;have lx:=BX.lt;have ly:=BY.lt;have I:w.heap.size<=d:=by omega
    have J:w.heap.size<=f:=by omega
    have PC:=qwk (PS.out wc _ L.length RC);clear D BX BY m bx RC BA BB v C O Y a5 PS hz;go_wp2_with fail
    refine PC.out.mono ?_;rintro e w4 ⟨A4,n4,c4,rfl,s,b4⟩;obtain rfl:n4=S.length:=(qwz s).lenP;have z:=f1.out;have s:w4.ownsRow wc.heap.size 73 2 (.slice A4 S.length c4) S.length (zdy S):=s;have t:=t.later b4;have u:=u.later b4;have a6:=qw5 bc b4;generalize wc.heap.size=n1 at*;clear PC bc b4;go_wp2_with fail
    go_loopw [41] (fun i wr=>∃k:Nat,k<=S.length/\i= .int .i64 (k:Int)/\Go.Hm.Own wr w.heap.size 3 (.slice (some ⟨d,0,none⟩) L.length L.length) (za5 .i64 ((S.take k).map (·.1)++List.replicate (L.length-k) 0))/\Go.Hm.Own wr w.heap.size 3 (.slice (some ⟨f,0,none⟩) L.length L.length) (za5 .i64 ((S.take k).map (·.2)++List.replicate (L.length-k) 0))/\wr.ownsRow n1 73 2 (.slice A4 S.length c4) S.length (zdy S)/\New w wr) (fun i _=>S.length-(intOf i).toNat)
    case atStart=>exact⟨0,qq1 _,rfl,by simpa using t,by simpa using u,s,a6⟩
    case round=>
     clear t u s a6;obtain⟨k,hk,rfl,t,u,s,m⟩:=hrel;by_cases j:k<S.length
     ·obtain⟨ad,rfl,_,d0,d1⟩:=(qwz s).pair j
      have Z:=qb0 j;have a0:=qb1 j;have d9:((S.take k).map (·.1)).length=k:=by rw[qtl,qqx];omega
      have e0:((S.take k).map (·.2)).length=k:=by rw[qtl,qqx];omega
      have d2:wr.cell? ⟨(ad.add (k*2)).block,(ad.add (k*2)).off+1,none⟩=some (.int .i64 (S.getD k (0,0)).2):=by rw[<-zbc] at d1;exact d1
      have N:(k:Int)<(S.length:Int):=by omega
      have i2:(k:Int)<(L.length:Int):=by omega
      have r:k<L.length:=by omega
      generalize S.getD k (0,0)=sp at*;obtain⟨E,F⟩:=sp;dsimp only at d0 d1 d2 Z a0;have b2:New wr (wr.alloc (.cells #[.int .i64 E,.int .i64 F] 73)):=(qwd _ _).alloc (qq0 _) _;have B2:=qw1 wr 73 #[.int .i64 E,.int .i64 F];obtain⟨p0,p1⟩:=zb3 B2;have h4:=(t.lt d rfl).2;have h7:=(u.lt f rfl).2;obtain⟨-,-,T,g6,e2⟩:=t.int0 r;obtain⟨-,-,U,g7,e3⟩:=u.int0 r;have xA:=e2 E;have yA:=e3 F;have a1:Value.ownBlock (.slice (some ⟨d,0,none⟩) L.length L.length)=none\/Value.ownBlock (.slice (some ⟨d,0,none⟩) L.length L.length)≠some f:= .inr (by simpa[Value.ownBlock] using X);have a2:Value.ownBlock (.slice (some ⟨f,0,none⟩) L.length L.length)=none\/Value.ownBlock (.slice (some ⟨f,0,none⟩) L.length L.length)≠some d:= .inr (by simpa[Value.ownBlock] using fun e=>X e.symm);have yx:=u.kept (zaz (g:=d) (i:=k) (x:= .int .i64 E)) a2;have xy:=t.kept (zaz (g:=f) (i:=k) (x:= .int .i64 F)) a1;have yB:=(yx.int0 r).2.2.2.2 F;have xB:=(xy.int0 r).2.2.2.2 E;have xC:=xA.kept (zaz (g:=f) (i:=k) (x:= .int .i64 F)) a1;have yC:=yA.kept (zaz (g:=d) (i:=k) (x:= .int .i64 E)) a2;rw[zm3 _ d9 r,<-Z] at xB xC;rw[zm3 _ e0 r,<-a0] at yB yC;have a3:=qqi s (zaz (g:=d) (i:=k) (x:= .int .i64 E)) (.inr (fun e=>by have:=(qqj s _ e).1;omega));have a4:=qqi s (zaz (g:=f) (i:=k) (x:= .int .i64 F)) (.inr (fun e=>by have:=(qqj s _ e).1;omega));have e6:=qqi a3 (zaz (g:=f) (i:=k) (x:= .int .i64 F)) (.inr (fun e=>by have:=(qqj a3 _ e).1;omega));have e7:=qqi a4 (zaz (g:=d) (i:=k) (x:= .int .i64 E)) (.inr (fun e=>by have:=(qqj a4 _ e).1;omega));have bA:=(m.setCell (p:=⟨d,k,none⟩) I (.int .i64 E)).setCell (p:=⟨f,k,none⟩) J (.int .i64 F);have bB:=(m.setCell (p:=⟨f,k,none⟩) J (.int .i64 F)).setCell (p:=⟨d,k,none⟩) I (.int .i64 E);have H:∀W:World,New W ((W.alloc (.cells #[.int .i64 E,.int .i64 F] 73)).drew):=fun W=>qw5 ((qwd _ _).alloc (qq0 _) _) (qw6 _)
      have e8:=qwk (qtc (xC.later (H _)) (qtc (yB.later (H _)) (qtc (zba e6 (H _)) (qw5 bA (H _)))));have e9:=qwk (qtc (xB.later (H _)) (qtc (yC.later (H _)) (qtc (zba e7 (H _)) (qw5 bB (H _)))));have c3:∃q,wr.cell? ⟨d,k,none⟩=some (.int .i64 q):=⟨_,T⟩;have d5:∃q,wr.cell? ⟨f,k,none⟩=some (.int .i64 q):=⟨_,U⟩;clear T U;obtain⟨q1,T⟩:=c3;obtain⟨q2,U⟩:=d5;have h1:f≠d:=fun e=>X e.symm
      clear H xC yB e6 bA xB yC e7 bB a3 a4 xA yA xy yx a1 a2 e2 e3 t u s m b2 B2 Z a0 d9 e0 d1;go_wp2_with fail
      go_region
      all_goals
       go_wp2_with fail
       go_roundw
       case rel=>
        first
         |exact⟨k+1,by omega,by go_num,e8.out⟩
         |exact⟨k+1,by omega,by go_num,e9.out⟩
       case measure=>simp[intOf];omega
     ·obtain rfl:k=S.length:=by omega
      rw[quw,z,qsz,qup,qra] at t;rw[quw,z,qsz,qup,qra] at u;have EX:=qwk (zjw (c:=L.length) t.reads HA.out.1 (by omega));have h3:=m.size;clear s j;go_wp2_with fail
      refine EX.out.mono ?_;intro e w5 h5;rw[HA.out.2] at h5;obtain⟨A5,n5,c5,rfl,o5,b5⟩:=h5;obtain rfl:n5=a.length:=by have:=o5.len;rwa[zaa] at this
      have EY:=qwk (zjw (c:=L.length) (u.later b5).reads HB.out.1 (by omega));have Q:=qw5 m b5;have h2:=Q.size;clear EX t u b5 m;go_wp2_with fail
      refine EY.out.mono ?_;intro e w6 h6;rw[HB.out.2] at h6;obtain⟨A6,n6,c6,rfl,o6,b6⟩:=h6;obtain rfl:n6=b.length:=by have:=o6.len;rwa[zaa] at this
      have o5:=o5.later b6;have R:=qw5 Q b6;have f7:=R.size;have h0:IntKind.u64.wrap (a.length:Int)=(a.length:Int):=by rw[qwp];omega
      have PT:=qwk (fun W:World=>zdc none 0 0 [] a.length W qwy (by omega) (by omega));have g9:=zae (n:=a.length) (by omega);clear EY b6 Q;generalize hV:vp a.length=V at*;clear hV;go_wp2_with fail
      refine(PT.out _).mono ?_;rintro e w7 ⟨A7,n7,c7,rfl,o7,b7⟩;rw[qrr] at o7;obtain rfl:n7=V.length:=by have:=o7.len;rwa[zaa] at this
      have g2:=zgu (ziw o7 (o5.base_le (qq1 _)));have f4:=zgu (ziw o7 (o6.base_le (qq1 _)));have o5:=o5.later b7;have o6:=o6.later b7;have a7:=qw5 R b7;have f8:=a7.size;have o7:=o7.base_le (b':=w.heap.size) f7;clear PT b7 R;go_wp2_with (first
       |(refine zaq elB rfl (.tmp 71) (.tmp 72) rfl (W:=w) (B:=w.heap.size) o7 o5.reads rfl rfl a7 (qq0 _) f8 (by omega) (by simp only[maxLen];omega) ?_
         intro A8 c8 w8 _ _ o8 g8 b8 d8;have p6:=o6.kept g8 f4;have f9:=b8.size)
       |(refine zaq elB rfl (.tmp 74) (.tmp 75) rfl (W:=w) (B:=w.heap.size) o8 p6.reads rfl rfl b8 (qq0 _) f9 (by omega) (by simp only[maxLen];omega) ?_
         intro A9 c9 w9 _ _ o9 _ b9 _))
      go_ret2
      rw[HE.out];exact⟨_,_,_,rfl,o9,b9⟩
theorem OptX.u{o:Option (List Nat)}{w w':World}{e:Ending}(h:OptX o w e w'):∃v,e= .returned (.tuple #[v,.bool o.isSome])/\New w w'/\ ∀b,o=some b-> ∃A n c,v= .slice A n c/\Go.Hm.Own w' w.heap.size 5 (.slice A n c) (zar .u8 b):=by
 cases o with
 |none=>obtain⟨⟨v,rfl⟩,d⟩:=h;exact⟨v,rfl,d,fun b a=>by cases a⟩
 |some l=>obtain⟨A,n,c,rfl,d,f⟩:=h;exact⟨_,rfl,f,fun b a=>by injection a with a;subst a;exact⟨_,_,_,rfl,d⟩⟩
theorem OptX.of{o:Option (List Nat)}{w w':World}{v:Value}(a:New w w')(d:∀b,o=some b-> ∃A n c,v= .slice A n c/\Go.Hm.Own w' w.heap.size 5 (.slice A n c) (zar .u8 b)):OptX o w (.returned (.tuple #[v,.bool o.isSome])) w':=by
 cases o with
 |none=>exact⟨⟨v,rfl⟩,a⟩
 |some l=>obtain⟨A,n,c,rfl,e⟩:=d l rfl;exact⟨A,n,c,rfl,e,a⟩
theorem zo3{w:World}{A:Option Addr}{n c:Nat}{L:List zab}(h:Reads w w.heap.size 5 A n (recs zay L))(m:∀y∈L,zaj y)(F:n<=65536):
 Calls Tryz.prog 159 #[.int .i64 3,.slice A n c] w (OptX (zez 3 3 L) w):=by
 obtain rfl:=h.lenCell;have l:=qwk (zkl (t:=3) (c:=c) h m (by omega));have k:Hid (∀W,New w W->zjk 3 L=true->Calls Tryz.prog 178 #[.slice A L.length c] W (OptX (encPts L) W)):=
  qwk (fun W D G=>zo2 (qxj h D) (plOk_iff.1 G).2 F)
 have q:zez 3 3 L=if zjk 3 L=true then encPts L else none:=by unfold zez;simp
 obtain⟨X,i⟩:∃X,X=zez 3 3 L:=⟨_,rfl⟩;rw[<-i];have g:=qwk (i.trans q);clear q i h m;generalize zjk 3 L=O at*;go_enter Tryz.func159,Tryz.ntmps159
 go_wp2_with fail
 refine l.out.mono ?_;rintro e x ⟨rfl,d⟩;clear l;cases O with
 |false=>
  have f:X=none:=by rw[g.out];rfl
  subst f;go_wp2
  go_ret2
  exact⟨⟨_,rfl⟩,d⟩
 |true=>
  have f:=g.out;rw[if_pos rfl] at f;subst f;have j:=qwk (k.out x d rfl);clear g k;generalize encPts L=Y at*;go_wp2_with fail
  refine j.out.mono ?_;rintro e J a;obtain⟨v,rfl,z,o⟩:=a.u;have s:=qwk o;clear o a j;generalize p:Y.isSome=S at*;have u:=qwk p;clear p;go_wp2_with fail
  go_ret2
  rw[<-u.out];exact OptX.of (qw5 d z) (fun b E=>by obtain⟨r,H,B,C,I⟩:=s.out b E;exact⟨r,H,B,C,I.base_le d.size⟩)
theorem qhg{w:World}{q:Nat}{t:Int}{A:Option Addr}{n c:Nat}{L:List zab}(b:fitsV t (q:Int)=true)(h:Reads w w.heap.size 5 A n (recs zay L))(d:∀y∈L,CellFine y)(f:n<=65536):
 Calls Tryz.prog (z6m q) #[.int .i64 t,.slice A n c] w (OptX (zez t (q:Int) L) w):=by
 have j:=(ziz b).1;have a:∀y∈L,zaj y:=fun y i=>zkb (d y i)
 rcases(by omega:q=0\/q=1\/q=2\/q=3\/q=4) with rfl|rfl|rfl|rfl|rfl
 ·have e:zez t ((0:Nat):Int) L=plO t L:=by unfold zez;simp
  rw[e];exact(zmg h a (by omega)).mono fun _ _ p=>OptB.x p
 ·have e:zez t ((1:Nat):Int) L=zi7 t L:=by unfold zez;simp
  rw[e];exact(zz5 h d f).mono fun _ _ p=>OptB.x p
 ·exact zsg h a (by omega)
 ·have g:t=0\/t=3:=by
   unfold fitsV at b;rw[decide_eq_true_eq] at b;omega
  rcases g with rfl|rfl
  ·exact zsh h a (by omega)
  ·exact zo3 h a f
 ·exact zrk h a (by omega)
def z0v(t e:Int)(L:List zab):Int × List Nat:=if fitsV t e=true then(match zez t e L with|some b=>(0,b)|none=>(1,[])) else(3,[])
def zkn(x:Int × List Nat)(w:World)(en:Ending)(w':World):Prop:=
 ∃A n c,en= .returned (.tuple #[.slice A n c,.int .i64 x.1])/\Go.Hm.Own w' w.heap.size 5 (.slice A n c) (zar .u8 x.2)/\New w w'
noncomputable def qp8:Value:=match(Tryz.prog.info? 205).bind (·.zero) with|some v=>v|none=>undef
theorem qlm(w:World):(zeroValue 205).run Tryz.prog w= .ok qp8 w:=by kernel_rfl
theorem z6u(i j:Nat)(w:World):(Instr.field 205 (.agg #[.func (.func i) #[] #[],.func (.func j) #[] #[]]) 0).run Tryz.prog w= .ok (.func (.func i) #[] #[]) w:=by kernel_rfl
theorem zlo{w:World}{t e:Int}{A:Option Addr}{n c:Nat}{L:List zab}(h:Reads w w.heap.size 5 A n (recs zay L))(r:∀y∈L,CellFine y)(N:n<=65536):
 Calls Tryz.prog 128 #[.int .i64 t,.int .i64 e,.slice A n c] w (zkn (z0v t e L) w):=by
 have F:=qwk (zmm t e w);by_cases g:fitsV t e=true
 ·have B:=(ziz g).1
  obtain⟨q,rfl⟩:=qsu B.1;have l:q<=4:=by omega
  have C:=qwk (@z0s w);have V:=qwk (fun(W:World) (J:New w W)=>qhg (c:=c) g (qxj h J) r N);have S:∀a w,(callFunc (z6m q) a).run Tryz.prog w= .ok (.enter (z6m q) a) w:=by intro a w;rcases(by omega:q=0\/q=1\/q=2\/q=3\/q=4) with rfl|rfl|rfl|rfl|rfl<;> simp only[z6m]<;> go_simp
  have s:Hid (z0v t (q:Int) L=match zez t (q:Int) L with|some b=>(0,b)|none=>(1,[])):=qwk (by unfold z0v;rw[if_pos g]);rw[g] at F;generalize zez t (q:Int) L=Y at*;generalize z0v t (q:Int) L=X at*;clear g h r B;go_enter Tryz.func128,Tryz.ntmps128
  go_wp2_with fail
  refine F.out.mono ?_;rintro e H ⟨rfl,rfl⟩;clear F;go_wp2_with fail
  refine C.out.mono ?_;rintro e p ⟨R,f,rfl,M,j,o⟩;have u:=qwk (V.out p o);have k:=j q l;clear C V j;have D:=qlm p;have K:=z6u (z6m q) (qnn q) p;go_wp2_with (refine zn0 rfl (.tmp 15) (.tmp 16) 206 rfl qmk z6n D M k (zkm q l) rfl rfl ?_;unfold qpb)
  refine u.out.mono ?_;rintro e Q d;obtain⟨v,rfl,x,z⟩:=d.u;have G:=qwk z;clear z d u M D k;cases Y with
  |none=>
   have m:X=(1,[]):=s.out;subst m;go_wp2_with fail
   go_ret2
   exact⟨none,0,0,rfl,qw0,qw5 o x⟩
  |some b=>
   have m:X=(0,b):=s.out;subst m;obtain⟨E,O,I,rfl,P⟩:=G.out b rfl;go_wp2_with fail
   go_ret2
   exact⟨E,O,I,rfl,P.base_le o.size,qw5 o x⟩
 ·have i:fitsV t e=false:=by simpa using g
  have m:z0v t e L=(3,[]):=by unfold z0v;rw[if_neg g]
  rw[m];rw[i] at F;clear g i h r;go_enter Tryz.func128,Tryz.ntmps128
  go_wp2_with fail
  refine F.out.mono ?_;rintro e H ⟨rfl,rfl⟩;clear F;go_wp2_with fail
  go_ret2
  exact⟨none,0,0,rfl,qw0,qw4 _⟩
def OptCX(o:Option (List zab))(w:World)(e:Ending)(w':World):Prop:=
 match o with
 |none=>(∃v,e= .returned (.tuple #[v,.bool false]))/\New w w'
 |some l=>∃A n c,e= .returned (.tuple #[.slice A n c,.bool true])/\w'.ownsRow w.heap.size 75 5 (.slice A n c) n (recs zay l)/\New w w'
theorem OptC.x{o:Option (List zab)}{w w':World}{e:Ending}(h:OptC o w e w'):OptCX o w e w':=by
 cases o with
 |none=>exact⟨⟨_,h.1⟩,h.2⟩
 |some l=>exact h
theorem qb3(t:Int)(l:List zab)(k:Nat):zej t l (k+1)=if(z0v t (k:Int) l).1=0/\((zej t l k).1<0\/(z0v t (k:Int) l).2.length<(zej t l k).2) then((k:Int),(z0v t (k:Int) l).2.length) else zej t l k:=by
 rw[zej];unfold z0v;cases hf:fitsV t (k:Int) with
 |false=>simp
 |true=>
  cases hv:zez t (k:Int) l with
  |none=>simp
  |some b=>simp
theorem qb4{w:World}{t:Int}{A:Option Addr}{n c:Nat}{L:List zab}(h:Reads w w.heap.size 5 A n (recs zay L))(M:∀y∈L,CellFine y)(R:n<=65536):
 Calls Tryz.prog 127 #[.int .i64 t,.slice A n c] w (zap (.int .i64 (bestV t L)) w):=by
 have V:=qwk (fun(W:World) (C:New w W) (e:Int)=>zlo (t:=t) (e:=e) (c:=c) (qxj h C) M R);have Y:=qwk (zu4 t L);have I:=qwk (qb3 t L);have N:Hid (bestV t L=(zej t L 5).1):=qwk rfl;have E:Hid (zej t L 0=(-1,0)):=qwk rfl;generalize bestV t L=Z at*;generalize P:zej t L=B at*;generalize z:(fun k:Nat=>z0v t (k:Int) L)=G at*;have O:Hid (∀(W:World) (k:Nat),New w W->Calls Tryz.prog 128 #[.int .i64 t,.int .i64 (k:Int),.slice A n c] W (zkn (G k) W)):=qwk (by subst z;exact fun W k C=>V.out W C (k:Int));have o:Hid (∀k,B (k+1)=if(G k).1=0/\((B k).1<0\/(G k).2.length<(B k).2) then((k:Int),(G k).2.length) else B k):=qwk (by subst z;exact I.out);clear V h M P z I;go_enter Tryz.func127,Tryz.ntmps127
 go_wp2_with fail
 go_loopw [5,6,7] (fun p f i wr=>∃k:Nat,k<=5/\i= .int .i64 (k:Int)/\p= .int .i64 (B k).1/\f= .int .i64 ((B k).2:Int)/\New w wr) (fun _ _ i _=>5-(intOf i).toNat)
 case atStart=>exact⟨0,by omega,rfl,by rw[E.out],by rw[E.out];rfl,qw4 _⟩
 case round=>
  obtain⟨k,hk,rfl,rfl,rfl,b⟩:=hrel;by_cases Q:k<5
  ·have r:=qwk (O.out _ k b)
   have j:=o.out k;obtain⟨⟨p,f⟩,g⟩:∃x,B k=x:=⟨_,rfl⟩;obtain⟨⟨J,l⟩,d⟩:∃x,G k=x:=⟨_,rfl⟩;rw[g,d] at j;rw[g];rw[d] at r;have a:=qwk j;have i1:(k:Int)<=4:=by omega
   clear j g d;go_wp2_with fail
   refine r.out.mono ?_;rintro e W1 ⟨X,T,c1,rfl,U,m⟩;obtain rfl:T=l.length:=by simpa[zar] using U.len
   clear r;by_cases s:J=0
   ·subst s
    by_cases u:p<0
    ·go_wp2_with fail
     go_roundw
     case rel=>exact⟨k+1,by omega,by go_num,by rw[a.out,if_pos ⟨by trivial,.inl u⟩],by rw[a.out,if_pos ⟨by trivial,.inl u⟩],qw5 b m⟩
     case measure=>simp[intOf];omega
    ·by_cases v:l.length<f
     ·have S:(l.length:Int)<(f:Int):=by omega
      go_wp2_with fail
      go_roundw
      case rel=>exact⟨k+1,by omega,by go_num,by rw[a.out,if_pos ⟨by trivial,.inr v⟩],by rw[a.out,if_pos ⟨by trivial,.inr v⟩],qw5 b m⟩
      case measure=>simp[intOf];omega
     ·have S:decide ((l.length:Int)<(f:Int))=false:=decide_eq_false (by omega)
      have K: ¬(p<0\/l.length<f):=by rintro(q|q);exact u q;exact v q
      have H:=qwk K;clear K;go_wp2_with fail
      go_roundw
      case rel=>exact⟨k+1,by omega,by go_num,by rw[a.out,if_neg (fun q=>H.out q.2)],by rw[a.out,if_neg (fun q=>H.out q.2)],qw5 b m⟩
      case measure=>simp[intOf];omega
   ·have F:=qwk s
    have i2:(J==0)=false:=by simpa using s
    go_wp2_with fail
    go_roundw
    case rel=>exact⟨k+1,by omega,by go_num,by rw[a.out,if_neg (fun q=>F.out q.1)],by rw[a.out,if_neg (fun q=>F.out q.1)],qw5 b m⟩
    case measure=>simp[intOf];omega
  ·have D:k=5:=by omega
   subst D;go_wp2_with fail
   go_ret
   exact⟨by rw[N.out];rfl,b⟩
theorem z28{l:List zab}(h:∀c∈l,zaj c):∀x∈zfx l,zf9 x:=fun x b=>by obtain⟨c,a,rfl⟩:=qqu.1 b;exact(h c a).2
theorem zvg{t:Int}{l:List zab}(h:zjk t l=true)(i:t=3):(∀x∈zkx 0 (xsV l),zf9 x)/\ ∀x∈zkx 0 (ysV l),zf9 x:=by
 subst i;have g:=(plOk_iff.1 h).2;have f:∀c∈l,(-1048576<=c.2.2.2.1/\c.2.2.2.1<=1048576)/\ -1048576<=c.2.2.2.2/\c.2.2.2.2<=1048576:=fun c b=>by have:=zoh (g c b);omega
 refine⟨fun x d=>?_,fun x d=>?_⟩
 ·have:=zu3 (a:=0) (by omega) (fun z e=>by obtain⟨c,b,rfl⟩:=qqu.1 e;exact(f c b).1) x d
  unfold zf9;omega
 ·have:=zu3 (a:=0) (by omega) (fun z e=>by obtain⟨c,b,rfl⟩:=qqu.1 e;exact(f c b).2) x d
  unfold zf9;omega
theorem z29{t e:Int}{l:List zab}{b:List Nat}(d:∀c∈l,zaj c)(h:zez t e l=some b):b.length<=100000000000:=by
 have a:=zq2 h;have k:=(plOk_iff.1 a).1.2.2;unfold zez at h;split at h
 ·have:=zuv a
  rw[<-(plO_iff.1 h).2];omega
 ·split at h
  ·have:=z98 h
   omega
  ·try rw[if_pos a] at h
   split at h
   ·injection h with h
    have:=zuu (zjp d) (by unfold ze7;rw[qtl];exact k);rw[show(ze7 l).length=l.length by unfold ze7;rw[qtl]] at this;rw[<-h];omega
   ·split at h
    ·split at h
     ·rename_i m
      obtain⟨f,g⟩:=zvg a m;unfold encPts at h;split at h
      ·rename_i x y o p
       have q:=zis f o;have r:=zis g p;have s:=zae (n:=x.length) (by omega);injection h with h;rw[<-h,qrp,qrp];omega
      ·cases h
     ·have:=zis (z28 d) h
      omega
    ·unfold zz6 at h
     split at h
     ·rename_i j
      obtain⟨u,i,v⟩:=(zfe _).1 j;have:=zux [] (za4 l) i;injection h with h;rw[<-h];omega
     ·cases h
theorem qln{t e:Int}{l:List zab}{b:List Nat}(f:∀c∈l,zaj c)(h:zez t e l=some b):∀x∈b,x<256:=by
 have d:=zq2 h;unfold zez at h;split at h
 ·rw[<-(plO_iff.1 h).2]
  exact qav (fun c g=>(f c g).1.2)
 ·split at h
  ·exact qf3 f h
  ·try rw[if_pos d] at h
   split at h
   ·injection h with h
    rw[<-h];exact zwx (zjp f)
   ·split at h
    ·split at h
     ·rename_i j
      obtain⟨n,o⟩:=zvg d j;unfold encPts at h;split at h
      ·rename_i x y k m
       injection h with h;rw[<-h];intro z a;rcases qr5.1 a with a|a
       ·rcases qr5.1 a with a|a
        ·exact z2i _ _ (qq0 _) z a
        ·exact z0w k z a
       ·exact z0w m z a
      ·cases h
     ·exact z0w h
    ·exact qk8 (fun s i=>by obtain⟨c,g,rfl⟩:=qqu.1 i;exact(f c g).1.2) h
theorem ztu{l:List zab}(h:l.length<=65536):(zcb l).length<=8193:=by unfold zcb;rw[za0,zff];omega
theorem zvh{t:Int}{nu:Bool}{e:Int}{l:List zab}{b:List Nat}{k:Int}(j:∀c∈l,zaj c)(h:pgE t nu e l=(k,b)):b.length<=100000010000:=by
 by_cases f:k=0
 ·subst f
  obtain⟨_,g,_,_,d,i,rfl⟩:=zol h;have a:=z29 (zjq j) i;have b:=ztu g;have c:=zae (n:=l.length) (by omega);simp only[qr1,qrp];split<;> simp<;> omega
 ·have:b=[]:=by
   unfold pgE at h;split at h
   ·injection h with _ h;exact h.symm
   ·split at h
    ·injection h with _ h;exact h.symm
    ·split at h
     ·split at h
      ·injection h with h _;exact absurd h.symm f
      ·injection h with _ h;exact h.symm
     ·injection h with _ h;exact h.symm
  subst this;simp
theorem qi8{t:Int}{nu:Bool}{e:Int}{l:List zab}{b:List Nat}(i:∀c∈l,zaj c)(h:pgE t nu e l=(0,b)):∀x∈b,x<256:=by
 obtain⟨_,_,_,g,d,f,rfl⟩:=zol h;have:=(ziz g).1;intro x a;rcases qsm.1 a with rfl|a
 ·omega
 ·rcases qr5.1 a with a|a
  ·exact z2i _ _ (qq0 _) x a
  ·rcases qr5.1 a with a|a
   ·split at a
    ·exact zhp _ _ x a
    ·cases a
   ·exact qln (zjq i) f x a
end Go.Proofs.Y
