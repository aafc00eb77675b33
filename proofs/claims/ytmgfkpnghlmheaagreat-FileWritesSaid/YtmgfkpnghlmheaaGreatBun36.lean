import Derived.Test.YtmgfkpnghlmheaaGreatBun35
set_option maxHeartbeats 8000000
set_option maxRecDepth 100000
namespace Go.Hm
open Go.Proofs Go.Proofs.Tryz Go.RowKit
variable{k g:Int}{a j:List Nat}{d i:Nat}{f:List (Int × Int)}{h:World}
def encOf(t e:Int)(l:List aJ):Int:=if e= -1 then bestV t (dD l) else e
def pgE(t:Int)(nu:Bool)(e:Int)(l:List aJ):Int × List Nat:=if¬(0<=t/\t<=3)\/(e≠ -1/\fitsV t e=false) then(3,[]) else if 65536<l.length then(4,[]) else if(l.all λc=>aP c t nu)=true then(match cC t (encOf t e l) (dD l) with|some d=>(0,(encOf t e l).toNat::(vp l.length++((if nu=true then gC l else [])++d)))|none=>(1,[])) else(1,[])
theorem JE{l:List aJ}{nu:Bool}(h:∀c∈l,aP c k nu=true):∀c∈dD l,aP c k false=true:=λc a=>by unfold dD at a;rw[Hf] at a;have b:=h c a.1;(have d:c.1=false:=by simpa using a.2);unfold aP at b⊢;rw[d] at b⊢;exact b
theorem JD{c:aJ}{nu:Bool}(h:aP c k nu=true)(a:c.1=true):c=nullC/\nu=true:=by obtain⟨j,d,f,g,i⟩:=c;dsimp only at a;subst a;(have e:nu=true/\d=0/\f=[]/\g=0/\i=0:=by simpa[aP] using h);obtain⟨b,rfl,rfl,rfl,rfl⟩:=e;exact⟨rfl,b⟩
theorem io{l:List aJ}{nu:Bool}(h:∀c∈l,aP c k nu=true):l.map yH=l:=by(conv=>rhs;rw[<-wP l]);refine nI λc a=>?_;unfold yH;split;rename_i b;exact(JD (h c a) b).1.symm;rfl
theorem JF{c:aJ}(nu:Bool)(h:aP c k false=true):aP c k nu=true:=by have a:=rL h;unfold aP at h⊢;rw[a] at h⊢;exact h
theorem MF{l:List aJ}(h:∀c∈l,aP c k false=true):dD l=l:=by unfold dD;rw[List.filter_eq_self];intro c a;rw[rL (h c a)];rfl
theorem Lu{l:List aJ}{t:Int}{nu:Bool}(a:0<=t/\t<=3)(b:l.length<=65536)(h:∀c∈l,aP c t nu=true):eK t (dD l)=true:=fZ.2 ⟨⟨a.1,a.2,cS (Gl l) b⟩,JE h⟩
theorem rK{nu:Bool}{l:List aJ}(h:pgE k nu g l=(0,a)):(0<=k/\k<=3)/\l.length<=65536/\(∀c∈l,aP c k nu=true)/\fitsV k (encOf k g l)=true/\ ∃d,cC k (encOf k g l) (dD l)=some d/\a=(encOf k g l).toNat::(vp l.length++((if nu=true then gC l else [])++d)):=by
 unfold pgE at h;split at h;injection h with h _;omega;rename_i f;split at h;injection h with h _;omega;rename_i o;split at h;rename_i m;rw[iI] at m;have n:0<=k/\k<=3:=by by_cases q:0<=k/\k<=3;exact q;exact absurd (.inl q) f
 split at h;rename_i d i;injection h with _ h;refine⟨n,by omega,m,?_,d,i,h.symm⟩;unfold encOf;split;exact(Ij (Lu n (by omega) m)).1;rename_i j;cases hf:fitsV k g with|true=>rfl|false=>exact absurd (.inr ⟨j,hf⟩) f
 injection h with h _;omega;injection h with h _;omega
theorem bn{nu:Bool}{l:List aJ}(h:pgE k nu g l=(0,a)):pgE k nu (encOf k g l) l=(0,a):=by
 obtain⟨p,m,j,c,d,i,o⟩:=rK h;have n:encOf k g l≠ -1:=by have:=(sA c).1;omega
 have f:encOf k (encOf k g l) l=encOf k g l:=by show(if encOf k g l= -1 then _ else _)=_;rw[if_neg n]
 rw[pgE,if_neg (by rintro(q|⟨_,q⟩);exact q p;rw[c] at q;cases q),if_neg (by omega),if_pos (iI.2 j),f,i,o]
structure nV(t:Int)(nu:Bool)(b:List Nat)(o:Option (List aJ)):Prop where
 sound:∀l,o=some l->(∃e,fitsV t e=true/\pgE t nu e l=(0,b))/\ ∀c∈l,cQ c
 compl:∀l,(∀c∈l,cQ c)->(∃e,fitsV t e=true/\pgE t nu e l=(0,b))->o=some l
theorem nV.uniq{nu:Bool}{o p:Option (List aJ)}(h:nV k nu a o)(e:nV k nu a p):o=p:=by cases o with|some l=>obtain⟨d,c⟩:=h.sound l rfl;exact(e.compl l c d).symm|none=>cases p with|none=>rfl|some l=>obtain⟨d,c⟩:=e.sound l rfl;exact h.compl l c d
theorem Bn{l:List aJ}(h:∀c∈l,cQ c):∀c∈dD l,cQ c:=λc a=>h c (by unfold dD at a;exact(Hf.1 a).1)
theorem U4:cQ nullC:=⟨⟨by simp[nullC],by simp[nullC]⟩,by simp[nullC]⟩
theorem Vu(S:St):cK S=(0,none)\/ ∃y r,S=some (y::r)/\cK S=(y,some r):=by unfold cK;split;rename_i y r;exact .inr ⟨y,r,rfl,rfl⟩;exact .inl rfl
def Cn(t:Int)(e:Nat)(S:St)(ov:Option (List aJ)):Option (List aJ):=if S=none\/fitsV t (e:Int)=false then none else ov
theorem Ey{t:Int}{x:List Nat}{S1 S2:St}{ov:Option (List aJ)}(G:∀x∈a,x<256)(k1:cK (some a)=(d,S1))(k2:lenS 65536 S1=(i,S2))(o:S2.getD []=x)(A:fitsV t (d:Int)=true->mJ t (d:Int) x (i:Int) ov):nV t false a (Cn t d S2 ov):=by
 constructor;intro l k;unfold Cn at k;split at k;cases k;rename_i D;have R:fitsV t (d:Int)=true:=by cases q:fitsV t (d:Int) with|true=>rfl|false=>exact absurd (.inr q) D
 have B:S2≠none:=λq=>D (.inl q);obtain⟨Q,E,M⟩:=(A R).sound l k;obtain⟨⟨K,L,w⟩,m⟩:=fZ.1 (Dd E);have c:(d:Int)≠ -1:=by omega
 refine⟨⟨(d:Int),R,?_⟩,M⟩;have j:encOf t (d:Int) l=(d:Int):=by unfold encOf;rw[if_neg c]
 rw[pgE,if_neg (by rintro(q|⟨_,q⟩);exact q ⟨K,L⟩;rw[R] at q;cases q),if_neg (by omega),if_pos (iI.2 m),j,MF m,E];dsimp only;rw[if_neg (by simp),eB,eQ];congr 1;rcases Vu (some a) with q|⟨y,r,s,q⟩;rw[q] at k1;injection k1 with _ k1;subst k1;rw[Ce] at k2;injection k2 with _ k2;exact absurd k2.symm B;rw[q] at k1;injection k1 with k1 f;subst k1 f;injection s with s;rcases oH 65536 (some r) (iJ λz J=>G z (by rw[s];simp[J])) with p|⟨N,r1,u,p1,_,p⟩;rw[p] at k2;injection k2 with _ k2;exact absurd k2.symm B;rw[p] at k2;injection k2 with k2 g;subst k2 g;injection u with u;simp only[kG] at o;rw[s,u,o,show l.length=N by omega];rintro l I ⟨h,R,H⟩;obtain⟨P,w,m,-,S,T,C⟩:=rK H;have c:h≠ -1:=by have:=(sA R).1;omega
 have j:encOf t h l=h:=by unfold encOf;rw[if_neg c]
 have v:=MF m;rw[j,v] at T;rw[j,if_neg (by simp),eB] at C;rw[C] at k1;simp only[cK] at k1;injection k1 with k1 f;subst k1 f;rw[lR _ _ (by omega) (by omega)] at k2;injection k2 with k2 g;subst k2 g;simp only[kG] at o;subst o;have O:=(sA R).1;have F:((h.toNat:Nat):Int)=h:=by omega
 unfold Cn;rw[F] at A⊢;rw[if_neg (by rintro(q|q);cases q;rw[R] at q;cases q)];exact(A R).compl l I rfl T
def Co(t:Int)(e:Nat)(S:St)(U:Option (List Nat))(ov:Option (List aJ)):Option (List aJ):=if S=none\/fitsV t (e:Int)=false then none else match ov with|none=>none|some r=>tI U r
theorem DC{t:Int}{b f x:List Nat}{e n:Nat}{S1 S2 L:St}{ov:Option (List aJ)}(h8:∀x∈b,x<256)
 (k1:cK (some b)=(e,S1))(k2:lenS 65536 S1=(n,S2))(a:dY (((n+7)/8:Nat):Int) S2=(f,L))(K:L.getD []=x)(J:fitsV t (e:Int)=true->mJ t (e:Int) x (lQ (iD f 1 (n:Int))) ov):nV t true b (Co t e L (iD f 1 (n:Int)) ov):=by
 constructor
 ·intro l g
  unfold Co at g;split at g
  ·cases g
  ·rename_i o
   have s:fitsV t (e:Int)=true:=by
    cases q:fitsV t (e:Int) with
    |true=>rfl
    |false=>exact absurd (.inr q) o
   have T:L≠none:=fun q=>o (.inl q)
   cases ov with
   |none=>cases g
   |some r=>
    dsimp only at g;obtain⟨v1,v2,v3⟩:=(J s).sound r rfl;obtain⟨⟨t0,t1,D⟩,X⟩:=fZ.1 (Dd v2);cases hU:iD f 1 (n:Int) with
    |none=>rw[hU] at g;cases g
    |some m=>
     rw[hU] at g;unfold tI at g;dsimp only at g;split at g
     ·rename_i H
      have k:∀z∈f,z<256:=by
       intro z j;rcases sN (((n+7)/8:Nat):Int) S2 with p|⟨l2,p1,_,_,p⟩
       ·rw[p] at a
        injection a with a _;rw[<-a] at j;cases j
       ·rw[p] at a
        injection a with a _;rw[<-a] at j;have j:=eA j;have F:St.ok S2:=by
         have:=gP (m:=65536) (S:=S1) (by have:=Vv (S:=some b) (iJ h8);rw[k1] at this;exact this)
         rw[k2] at this;exact this
        exact F l2 p1 z j
      obtain⟨u1,u2,u3,u4⟩:=Ls k hU;obtain⟨s1,Q,s3⟩:=Sq m r l u3 H g;have j:l.map yH=l:=by have:=DN l;rw[s1,Q,g] at this;injection this with this;exact this.symm
      have E:l.length<=65536:=by omega
      have U:f=gC l:=by have:=Sr E;rw[s1,u1] at this;injection this
      have G:∀c∈l,aP c t true=true:=by
       intro c o;cases hn:c.1 with
       |true=>
        obtain⟨i,hi,rfl⟩:=tR o;have O:(l.map yH)[i]'(by simpa using hi)=l[i]:=by simp only[j]
        rw[Uh] at O;unfold yH at O;rw[hn] at O;rw[<-O];simp[aP,nullC]
       |false=>
        refine JF true (X c ?_);rw[<-Q];unfold dD;rw[Hf];exact⟨o,by simp[hn]⟩
      have W:∀c∈l,cQ c:=by
       intro c o;cases hn:c.1 with
       |true=>
        rw[(JD (G c o) hn).1];exact U4
       |false=>
        refine v3 c ?_;rw[<-Q];unfold dD;rw[Hf];exact⟨o,by simp[hn]⟩
      refine⟨⟨(e:Int),s,?_⟩,W⟩;have u:(e:Int)≠ -1:=by omega
      have M:encOf t (e:Int) l=(e:Int):=by unfold encOf;rw[if_neg u]
      rw[pgE,if_neg (by rintro(q|⟨_,q⟩);exact q ⟨t0,t1⟩;rw[s] at q;cases q),if_neg (by omega),if_pos (iI.2 G),M,Q,v2];dsimp only;rw[if_pos rfl,eQ];congr 1
      rcases Vu (some b) with q|⟨y,rr,P,q⟩
      ·rw[q] at k1
       injection k1 with _ k1;subst k1;rw[Ce] at k2;injection k2 with _ k2;subst k2;rw[wL] at a;injection a with _ a;exact absurd a.symm T
      ·rw[q] at k1
       injection k1 with k1 v;subst k1 v;injection P with P;rcases oH 65536 (some rr) (iJ fun z j=>h8 z (by rw[P];simp[j])) with p|⟨N,r1,R,p1,_,p⟩
       ·rw[p] at k2
        injection k2 with _ k2;subst k2;rw[wL] at a;injection a with _ a;exact absurd a.symm T
       ·rw[p] at k2
        injection k2 with k2 w;subst k2 w;injection R with R;rcases sN (((N+7)/8:Nat):Int) (some r1) with Z|⟨l2,p3,_,p4,Z⟩
        ·rw[Z] at a
         injection a with _ a;exact absurd a.symm T
        ·rw[Z] at a
         injection a with a A;injection p3 with p3;subst p3;rw[<-A] at K;simp only[kG] at K;rw[P,R,show l.length=N by omega,<-U,<-a,<-K];simp
     ·cases g
 ·rintro l hd ⟨B,s,hB⟩
  obtain⟨ht,D,X,-,d,C,hb⟩:=rK hB;have u:B≠ -1:=by have:=(sA s).1;omega
  have M:encOf t B l=B:=by unfold encOf;rw[if_neg u]
  rw[M] at C;rw[M,if_pos rfl] at hb;rw[hb] at k1;simp only[cK] at k1;injection k1 with k1 v;subst k1 v;rw[lR _ _ (by omega) (by omega)] at k2;injection k2 with k2 w;subst k2 w;have Y:(gC l).length=(l.length+7)/8:=by unfold gC;rw[fQ,wA,Ho]
  have I:=sM (gC l) d;rw[Y] at I;rw[I] at a;injection a with a A;subst a A;simp only[kG] at K;subst K;rw[mr D] at J⊢;have V:lQ (some (gQ l))=((dD l).length:Int):=by unfold lQ;dsimp only;rw[KY]
  rw[V] at J;have h0:=(sA s).1;have ee:((B.toNat:Nat):Int)=B:=by omega
  unfold Co;rw[ee] at J⊢;rw[if_neg (by rintro(q|q);cases q;rw[s] at q;cases q),(J s).compl (dD l) (Bn hd) rfl C];dsimp only;rw[joinO_eqP (KY l),DN,io X]
where
 joinO_eqP {m:List Nat} {r:List aJ} (h:m.sum=r.length):tI (some m) r=lJ m r:=by rw[tI];simp[h]
theorem E9{nu:Bool}{b:List Nat}(h: ¬(0<=k/\k<=3)):nV k nu b none:=⟨λl e=>(by cases e),λl _ ⟨_,_,a⟩=>absurd (rK a).1 h⟩
def jQ(l:List aJ):List (Int × Int):=l.map λc=>(c.2.2.2.1,c.2.2.2.2)
theorem du(l:List aJ):(jQ l).length=l.length:=by simp[jQ]
theorem NM(l:List aJ):(jQ l).map (·.1)=kE l:=by unfold jQ kE;rw[lE];rfl
theorem NN(l:List aJ):(jQ l).map (·.2)=kF l:=by unfold jQ kF;rw[lE];rfl
theorem vU{l:List Int}(h:l.length<=65536):∃b,jL l=some b:=by unfold jL;rw[if_neg (by omega)];split<;> exact⟨_,rfl⟩
theorem EC(h:d<f.length):((f.take (d+1)).map (·.1))=(f.take d).map (·.1)++[(f.getD d (0,0)).1]:=by rw[cI f d (0,0) h];simp
theorem ED(h:d<f.length):((f.take (d+1)).map (·.2))=(f.take d).map (·.2)++[(f.getD d (0,0)).2]:=by rw[cI f d (0,0) h];simp
theorem WW{A:Option Addr}{L:List aJ}(B:aF h h.heap.size 5 A d (recs aU L))(hr:∀y∈L,aP y 3 false=true)(hn:d<=65536):Calls prog 212 #[.slice A d i] h (nY (encPts L) h):=by
 obtain rfl:=B.lenCell;have HR:=aB B;obtain⟨S,hS⟩:∃S,S=(fD 0 (kE L)).zip (fD 0 (kF L)):=⟨_,rfl⟩;have a9:lK (0,0) (jQ L)=some S:=by rw[hS,Su (jQ L) (0,0) (λp hp=>by obtain⟨i,hc,rfl⟩:=bS.1 hp;have:=uO (hr i hc);exact vZ.2 (by dsimp only;omega)),NM,NN]
 have f5:(fD 0 (kE L)).length=L.length:=by rw[rX];simp[kE]
 have f6:(fD 0 (kF L)).length=L.length:=by rw[rX];simp[kF]
 have z:S.length=L.length:=by rw[hS,Uj];omega
 have b0:S.map (·.1)=fD 0 (kE L):=by rw[hS];exact List.map_fst_zip (by omega)
 have c0:S.map (·.2)=fD 0 (kF L):=by rw[hS];exact List.map_snd_zip (by omega)
 obtain⟨N,i2⟩:=Rg hr;obtain⟨a,ha⟩:=vU (l:=fD 0 (kE L)) (by omega);obtain⟨b,hb⟩:=vU (l:=fD 0 (kF L)) (by omega);have g4:=vT N ha;have g5:=vT i2 hb;have HE:Hid (encPts L=some (vp a.length++a++b)):=aB (by unfold encPts;rw[ha,hb]);rw[<-b0] at N ha;rw[<-c0] at i2 hb;have HA:=aB (bZ N ha);have HB:=aB (bZ i2 hb);have PS:=λ(W:World) (A:Option Addr) (i:Nat) (hR:aF W W.heap.size 2 A L.length (eM (jQ L)))=>show Calls prog 227 #[.slice A L.length i] W (Ib (some S) W) from by have:=dr (c:=i) hR (by omega);rw[a9] at this;exact this
 have PS:=aB PS;have f1:=aB z;clear B hr hS a9 f5 f6 b0 c0 N i2 ha hb z;have c1:aD h h:=bF h;have e4:h.heap.size<=h.heap.size:=aG _;go_enter func212,ntmps212;go_wp2_with (refine rn Bp rfl (.tmp 17) (.tmp 17) rfl (W:=h) (B:=h.heap.size) L.length rfl rfl rfl rfl c1 e4 (by omega) (by simp only[maxLen];omega) ?_;intro w1 o1 g1 b1 K);rw[aw] at o1;clear c1 e4 g1;go_loopw [21] (λP wr=>∃k:Nat,k<=L.length/\P= .int .i64 (k:Int)/\wr.ownsRow h.heap.size 59 2 (.slice (some ⟨h.heap.size,0,none⟩) L.length L.length) L.length (eM (jQ (L.take k)++List.replicate (L.length-k) (0,0)))/\aD h wr) (λP _=>L.length-(intOf P).toNat);case atStart=>exact⟨0,bL _,rfl,by simpa[jQ] using o1,b1⟩
 case round=>clear o1 b1 K;obtain⟨k,hk,rfl,o,m⟩:=hrel;by_cases j:k<L.length;(·obtain⟨ad,rfl,_,d0,d1,d2,d3,d4⟩:=(aO HR.o m).cell5 j;(have M:jQ (L.take (k+1))=jQ (L.take k)++jQ [L.getD k (false,0,[],0,0)]:=by rw[cI L k (false,0,[],0,0) j];simp[jQ]);(have d7:(jQ (L.take k)).length=k:=by rw[du,cM];omega);(have N:(k:Int)<(L.length:Int):=by omega);generalize L.getD k (false,0,[],0,0)=x at*;obtain⟨xb,xn,xs,xx,xy⟩:=x;have M:jQ (L.take (k+1))=jQ (L.take k)++[(xx,xy)]:=M;dsimp only at d0 d1 d2 d3 d4;have b2:aD wr (wr.alloc (.cells #[.bool xb,.int .i64 xn,.string (aH xs),.int .i64 xx,.int .i64 xy] 61)):=(aM _ _).alloc (aG _) _;have B2:=aQ wr 61 #[.bool xb,.int .i64 xn,.string (aH xs),.int .i64 xx,.int .i64 xy];rw[show L.length-k=(L.length-(k+1))+1 by omega,qO] at o;have o2:=aB (eZ o b2);have f3:=aE m b2;obtain⟨p0,p1,p2,p3,p4⟩:=gV B2;(have g0:(⟨h.heap.size,0,none⟩:Addr).add (k*2)=⟨h.heap.size,k*2,none⟩:=by unfold Addr.add;split<;> simp_all);have f2:=aB M;have f0:=aB d7;clear M d7 o m b2 B2;go_wp2_with (refine rq rfl 59 (.tmp 30) (.tmp 29) rfl (new:=(xx,xy)) o2.o f0.o j rfl rfl (by kernel_rfl) ?_;intro w3 o3 g3);have b3:=mF f3 g3 (aG _) (aG _);(have o3:w3.ownsRow h.heap.size 59 2 (.slice (some ⟨h.heap.size,0,none⟩) L.length L.length) L.length (eM (jQ (L.take (k+1))++List.replicate (L.length-(k+1)) (0,0))):=by rw[f2.o,cD];exact o3);go_roundw;(case rel=>exact⟨k+1,by omega,by go_num,o3,b3⟩);case measure=>simp[intOf];omega);·(obtain rfl:k=L.length:=by omega);rw[cO,jC,oM,dH] at o;have a5:=aB (dX o);clear o j;obtain⟨N,d6,e5,K,c2⟩:=info_parts rY.hi;have Y:=λW=>run_make (P:=prog) W 26 3 N _ rY.ht d6 e5 .i64 .i64 (L.length:Int) (L.length:Int) (by omega) (by omega) (by rw[c2];omega) (by omega);simp only[eQ,K] at Y;generalize a8:madeCells _ (L.length*1)=G at Y;have O:=aB a8;clear a8 d6 e5 K c2;have BA:=aQ wr 3 G;have BB:=aQ (wr.alloc (.cells G 3)) 3 G;have v:=BA.alloc (.cells G 3);have C:aD wr ((wr.alloc (.cells G 3)).alloc (.cells G 3)):=((aM _ _).alloc (aG _) _).alloc (by simp) _;simp only[eS] at BB;go_upto_region 7 with fail;go_cut [7,8] (λs7 s8 wx=>∃l f:Nat,s7= .slice (some ⟨l,0,none⟩) L.length L.length/\s8= .slice (some ⟨f,0,none⟩) L.length L.length/\l≠f/\wr.heap.size<=l/\wr.heap.size<=f/\aI wx l 3 G/\aI wx f 3 G/\aD wr wx);(case first=>go_region;all_goals go_wp2_with fail;go_meet;first|exact⟨wr.heap.size,wr.heap.size+1,rfl,rfl,by omega,by omega,by omega,v,BB,C⟩|exact⟨wr.heap.size+1,wr.heap.size,rfl,rfl,by omega,by omega,by omega,BB,v,C⟩|exact⟨wr.heap.size,wr.heap.size+1,rfl,rfl,by omega,by omega,by omega,v,BB,aE C (bU _)⟩|exact⟨wr.heap.size+1,wr.heap.size,rfl,rfl,by omega,by omega,by omega,BB,v,aE C (bU _)⟩);case rest=>obtain⟨l,f,rfl,rfl,X,I,J,BX,BY,bx⟩:=hcut;have hz:=m.size;(have D:∀g,wr.heap.size<=g->aI wc g 3 G->Go.Hm.Own wc h.heap.size 3 (.slice (some ⟨g,0,none⟩) L.length L.length) (cY .i64 (List.replicate L.length 0)):=by intro g hg hB;(have e1:(cY .i64 (List.replicate L.length 0)).length=L.length:=by rw[sD,Dq]);unfold Go.Hm.Own;rw[e1];refine⟨by rw[e1,fT],.inr ⟨g,L.length,G,rfl,by omega,hB,aG _,by simp only[maxLen];omega,by rw[<-O.o];simp[size_madeCells],?_⟩⟩;rw[<-O.o,gY (by simp[size_madeCells]),Ex];have:=toList_madeCells_one (.int .i64 0) (L.length*1);rw[fT] at this⊢;exact this);have t:=D l I BX;have u:=D f J BY;have bc:=aE m bx;have RC:=aO a5.o bx;have lx:=BX.lt;have ly:=BY.lt;(have I:h.heap.size<=l:=by omega);(have J:h.heap.size<=f:=by omega);have PC:=aB (PS wc _ L.length RC);clear D BX BY m bx RC BA BB v C O Y a5 PS hz;go_wp2_with fail;refine PC.mono ?_;rintro e w4 ⟨A4,n4,c4,rfl,s,b4⟩;obtain rfl:n4=S.length:=(dX s).lenP;have z:=f1.o;have s:w4.ownsRow wc.heap.size 59 2 (.slice A4 S.length c4) S.length (eM S):=s;have t:=t.later b4;have u:=u.later b4;have a6:=aE bc b4;generalize wc.heap.size=n1 at*;clear PC bc b4;go_wp2_with fail;go_loopw [41] (λP wr=>∃k:Nat,k<=S.length/\P= .int .i64 (k:Int)/\Go.Hm.Own wr h.heap.size 3 (.slice (some ⟨l,0,none⟩) L.length L.length) (cY .i64 ((S.take k).map (·.1)++List.replicate (L.length-k) 0))/\Go.Hm.Own wr h.heap.size 3 (.slice (some ⟨f,0,none⟩) L.length L.length) (cY .i64 ((S.take k).map (·.2)++List.replicate (L.length-k) 0))/\wr.ownsRow n1 59 2 (.slice A4 S.length c4) S.length (eM S)/\aD h wr) (λP _=>S.length-(intOf P).toNat);(case atStart=>exact⟨0,bL _,rfl,by simpa using t,by simpa using u,s,a6⟩);case round=>clear t u s a6;obtain⟨k,hk,rfl,t,u,s,m⟩:=hrel;by_cases j:k<S.length;(·obtain⟨ad,rfl,_,d0,d1⟩:=(dX s).pair j;have Z:=EC j;have a0:=ED j;(have d9:((S.take k).map (·.1)).length=k:=by rw[bC,cM];omega);(have e0:((S.take k).map (·.2)).length=k:=by rw[bC,cM];omega);(have d2:wr.cell? ⟨(ad.add (k*2)).block,(ad.add (k*2)).off+1,none⟩=some (.int .i64 (S.getD k (0,0)).2):=by rw[<-lH] at d1;exact d1);(have N:(k:Int)<(S.length:Int):=by omega);(have i2:(k:Int)<(L.length:Int):=by omega);(have r:k<L.length:=by omega);generalize S.getD k (0,0)=sp at*;obtain⟨E,F⟩:=sp;dsimp only at d0 d1 d2 Z a0;have b2:aD wr (wr.alloc (.cells #[.int .i64 E,.int .i64 F] 59)):=(aM _ _).alloc (aG _) _;have B2:=aQ wr 59 #[.int .i64 E,.int .i64 F];obtain⟨p0,p1⟩:=dR B2;have h4:=(t.lt l rfl).2;have h7:=(u.lt f rfl).2;obtain⟨-,-,T,g6,e2⟩:=t.int0 r;obtain⟨-,-,U,g7,e3⟩:=u.int0 r;have xA:=e2 E;have yA:=e3 F;have a1:Value.ownBlock (.slice (some ⟨l,0,none⟩) L.length L.length)=none\/Value.ownBlock (.slice (some ⟨l,0,none⟩) L.length L.length)≠some f:= .inr (by simpa[Value.ownBlock] using X);have a2:Value.ownBlock (.slice (some ⟨f,0,none⟩) L.length L.length)=none\/Value.ownBlock (.slice (some ⟨f,0,none⟩) L.length L.length)≠some l:= .inr (by simpa[Value.ownBlock] usingλe=>X e.symm);have yx:=u.kept (iN (g:=l) (i:=k) (x:= .int .i64 E)) a2;have xy:=t.kept (iN (g:=f) (i:=k) (x:= .int .i64 F)) a1;have yB:=(yx.int0 r).2.2.2.2 F;have xB:=(xy.int0 r).2.2.2.2 E;have xC:=xA.kept (iN (g:=f) (i:=k) (x:= .int .i64 F)) a1;have yC:=yA.kept (iN (g:=l) (i:=k) (x:= .int .i64 E)) a2;rw[Lf _ d9 r,<-Z] at xB xC;rw[Lf _ e0 r,<-a0] at yB yC;have a3:=eD s (iN (g:=l) (i:=k) (x:= .int .i64 E)) (.inr (λe=>by have:=(fC s _ e).1;omega));have a4:=eD s (iN (g:=f) (i:=k) (x:= .int .i64 F)) (.inr (λe=>by have:=(fC s _ e).1;omega));have e6:=eD a3 (iN (g:=f) (i:=k) (x:= .int .i64 F)) (.inr (λe=>by have:=(fC a3 _ e).1;omega));have e7:=eD a4 (iN (g:=l) (i:=k) (x:= .int .i64 E)) (.inr (λe=>by have:=(fC a4 _ e).1;omega));have bA:=(m.setCell (p:=⟨l,k,none⟩) I (.int .i64 E)).setCell (p:=⟨f,k,none⟩) J (.int .i64 F);have bB:=(m.setCell (p:=⟨f,k,none⟩) J (.int .i64 F)).setCell (p:=⟨l,k,none⟩) I (.int .i64 E);have H:∀W:World,aD W ((W.alloc (.cells #[.int .i64 E,.int .i64 F] 59)).drew):=λW=>aE ((aM _ _).alloc (aG _) _) (bU _);have e8:=aB (bZ (xC.later (H _)) (bZ (yB.later (H _)) (bZ (eZ e6 (H _)) (aE bA (H _)))));have e9:=aB (bZ (xB.later (H _)) (bZ (yC.later (H _)) (bZ (eZ e7 (H _)) (aE bB (H _)))));have c3:∃q,wr.cell? ⟨l,k,none⟩=some (.int .i64 q):=⟨_,T⟩;have d5:∃q,wr.cell? ⟨f,k,none⟩=some (.int .i64 q):=⟨_,U⟩;clear T U;obtain⟨q1,T⟩:=c3;obtain⟨q2,U⟩:=d5;have h1:f≠l:=λe=>X e.symm;clear H xC yB e6 bA xB yC e7 bB a3 a4 xA yA xy yx a1 a2 e2 e3 t u s m b2 B2 Z a0 d9 e0 d1;go_wp2_with fail;go_region;all_goals go_wp2_with fail;go_roundw;(case rel=>first|exact⟨k+1,by omega,by go_num,e8.o⟩|exact⟨k+1,by omega,by go_num,e9.o⟩);case measure=>simp[intOf];omega);·(obtain rfl:k=S.length:=by omega);rw[cO,z,jC,oM,dH] at t;rw[cO,z,jC,oM,dH] at u;have EX:=aB (Om (c:=L.length) t.reads HA.1 (by omega));have h3:=m.size;clear s j;go_wp2_with fail;refine EX.mono ?_;intro e w5 h5;rw[HA.2] at h5;obtain⟨A5,n5,c5,rfl,o5,b5⟩:=h5;(obtain rfl:n5=a.length:=by have:=o5.len;rwa[aS] at this);have EY:=aB (Om (c:=L.length) (u.later b5).reads HB.1 (by omega));have Q:=aE m b5;have h2:=Q.size;clear EX t u b5 m;go_wp2_with fail;refine EY.mono ?_;intro e w6 h6;rw[HB.2] at h6;obtain⟨A6,n6,c6,rfl,o6,b6⟩:=h6;(obtain rfl:n6=b.length:=by have:=o6.len;rwa[aS] at this);have o5:=o5.later b6;have R:=aE Q b6;have f7:=R.size;(have h0:IntKind.u64.wrap (a.length:Int)=(a.length:Int):=by rw[fB];omega);have PT:=aB (λW:World=>mC none 0 0 [] a.length W iE (by omega) (by omega));have g9:=bY (n:=a.length) (by omega);clear EY b6 Q;generalize hV:vp a.length=V at*;clear hV;go_wp2_with fail;refine(PT _).mono ?_;rintro e w7 ⟨A7,n7,c7,rfl,o7,b7⟩;rw[eB] at o7;(obtain rfl:n7=V.length:=by have:=o7.len;rwa[aS] at this);have g2:=nL (oZ o7 (o5.base_le (bL _)));have f4:=nL (oZ o7 (o6.base_le (bL _)));have o5:=o5.later b7;have o6:=o6.later b7;have a7:=aE R b7;have f8:=a7.size;have o7:=o7.base_le (b':=h.heap.size) f7;clear PT b7 R;go_wp2_with (first|(refine fW cG rfl (.tmp 71) (.tmp 72) rfl (W:=h) (B:=h.heap.size) o7 o5.reads rfl rfl a7 (aG _) f8 (by omega) (by simp only[maxLen];omega) ?_;intro A8 c8 w8 _ _ o8 g8 b8 d8;have p6:=o6.kept g8 f4;have f9:=b8.size)|(refine fW cG rfl (.tmp 74) (.tmp 75) rfl (W:=h) (B:=h.heap.size) o8 p6.reads rfl rfl b8 (aG _) f9 (by omega) (by simp only[maxLen];omega) ?_;intro A9 c9 w9 _ _ o9 _ b9 _));go_ret2;rw[HE.o];exact⟨_,_,_,rfl,o9,b9⟩
def Bb(o:Option (List aJ))(w:World)(e:Ending)(w':World):Prop:=match o with|none=>(∃v,e= .returned (.tuple #[v,.bool false]))/\aD w w'|some l=>∃A n c,e= .returned (.tuple #[.slice A n c,.bool true])/\w'.ownsRow w.heap.size 61 5 (.slice A n c) n (recs aU l)/\aD w w'
theorem Ee.x{o:Option (List aJ)}{a:World}{e:Ending}(b:Ee o h e a):Bb o h e a:=by cases o with|none=>exact⟨⟨_,b.1⟩,b.2⟩|some l=>exact b
def Vl(t e:Int)(b:List Nat)(n:Int)(w:World)(en:Ending)(w':World):Prop:=∃o,mJ t e b n o/\Bb o w en w'
theorem CQ{l:List aJ}(h:∀c∈l,cQ c):∀x∈gX l,dI x:=λx b=>by obtain⟨c,a,rfl⟩:=bS.1 b;exact(h c a).2
theorem Oq{l:List aJ}(h:eK k l=true)(i:k=3):(∀x∈fD 0 (kE l),dI x)/\ ∀x∈fD 0 (kF l),dI x:=by subst i;have g:=(fZ.1 h).2;(have f:∀c∈l,(-1048576<=c.2.2.2.1/\c.2.2.2.1<=1048576)/\ -1048576<=c.2.2.2.2/\c.2.2.2.2<=1048576:=λc b=>by have:=uO (g c b);omega);refine⟨λx d=>?_,λx d=>?_⟩;have:=Jf (a:=0) (by omega) (λz e=>by obtain⟨c,b,rfl⟩:=bS.1 e;exact(f c b).1) x d;unfold dI;omega;have:=Jf (a:=0) (by omega) (λz e=>by obtain⟨c,b,rfl⟩:=bS.1 e;exact(f c b).2) x d;unfold dI;omega
theorem Te{l:List aJ}(d:∀c∈l,cQ c)(h:cC k g l=some a):a.length<=100000000000:=by have n:=Dd h;have z:=(fZ.1 n).1.2.2;unfold cC at h;split at h;have:=Ff n;rw[<-(jO.1 h).2];omega;split at h;have:=VA h;omega;·(try rw[if_pos n] at h);split at h;injection h with h;have:=Jh (Dh d) (by unfold fS;rw[bC];exact z);rw[show(fS l).length=l.length by unfold fS;rw[bC]] at this;rw[<-h];omega;split at h;split at h;rename_i m;obtain⟨f,w⟩:=Oq n m;unfold encPts at h;split at h;rename_i x y o p;have q:=vT f o;have r:=vT w p;have s:=bY (n:=x.length) (by omega);injection h with h;rw[<-h,aN,aN];omega;cases h;have:=vT (CQ d) h;omega;unfold kL at h;split at h;rename_i j;obtain⟨u,i,v⟩:=(tE _).1 j;have:=Jk [] (bX l) i;injection h with h;rw[<-h];omega;cases h
theorem qi{l:List aJ}(f:∀c∈l,cQ c)(h:cC k g l=some a):∀x∈a,x<256:=by have d:=Dd h;unfold cC at h;split at h;rw[<-(jO.1 h).2];exact Rb (λc q=>(f c q).1.2);split at h;exact VF f h;·(try rw[if_pos d] at h);split at h;injection h with h;rw[<-h];exact Ze (Dh f);split at h;split at h;rename_i j;obtain⟨n,o⟩:=Oq d j;unfold encPts at h;split at h;rename_i x y r m;injection h with h;rw[<-h];intro z p;rcases cN.1 p with p|p;rcases cN.1 p with p|p;exact Lv _ _ (aG _) z p;exact Oz r z p;exact Oz m z p;cases h;exact Oz h;exact WF (λs i=>by obtain⟨c,q,rfl⟩:=bS.1 i;exact(f c q).1.2) h
theorem So{l:List aJ}(h:l.length<=65536):(gC l).length<=8193:=by unfold gC;rw[fQ,wA];omega
theorem Ku{t:Int}{nu:Bool}{e:Int}{l:List aJ}{b:List Nat}(j:∀c∈l,cQ c)(h:pgE t nu e l=(k,b)):b.length<=100000010000:=by by_cases f:k=0;subst f;obtain⟨_,g,_,_,d,i,rfl⟩:=rK h;have a:=Te (Bn j) i;have b:=So g;have c:=bY (n:=l.length) (by omega);simp only[cJ,aN];split<;> simp<;> omega;(have:b=[]:=by unfold pgE at h;split at h;injection h with _ h;exact h.symm;split at h;injection h with _ h;exact h.symm;split at h;split at h;injection h with h _;exact absurd h.symm f;injection h with _ h;exact h.symm;injection h with _ h;exact h.symm);subst this;simp
theorem GH{nu:Bool}{l:List aJ}(i:∀c∈l,cQ c)(h:pgE k nu g l=(0,a)):∀x∈a,x<256:=by obtain⟨_,_,_,m,d,f,rfl⟩:=rK h;have:=(sA m).1;intro x j;rcases dF.1 j with rfl|j;omega;rcases cN.1 j with j|j;exact Lv _ _ (aG _) x j;rcases cN.1 j with j|j;split at j;exact xP _ _ x j;cases j;exact qi (Bn i) f x j
end Go.Hm
