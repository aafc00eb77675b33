import Derived.Test.YtbahbnbpmfgimaaGreatDoorBun17
import Derived.Test.YtbahbnbpmfgimaaGreatDoorBun18
set_option maxHeartbeats 4000000
set_option maxRecDepth 100000
namespace Go.Proofs.Y
open Go.RowKit Go.Hm
def zi7(t:Int)(l:List zab):Option (List Nat):=
 match plO t (zgs l).1 with
 |none=>none
 |some V=>if l.length<=65536 then some (vp (zgs l).1.length++vp V.length++V++zlu (zgs l).2) else none
structure IsDic(t:Int)(b:List Nat)(n:Int)(o:Option (List zab)):Prop where
 sound:∀l,o=some l->(l.length:Int)=n/\zi7 t l=some b/\ ∀c∈l,zaj c
 compl:∀l,(∀c∈l,zaj c)->(l.length:Int)=n->zi7 t l=some b->o=some l
theorem IsDic.uniq{t:Int}{b:List Nat}{n:Int}{o p:Option (List zab)}(h:IsDic t b n o)(k:IsDic t b n p):o=p:=by
 cases o with
 |some l=>obtain⟨a,b,c⟩:=h.sound l rfl;exact(k.compl l c a b).symm
 |none=>
  cases p with
  |none=>rfl
  |some l=>obtain⟨a,b,c⟩:=k.sound l rfl;exact h.compl l c a b
theorem zjn{l:List zab}(b:l.length<=65536):∀x∈(zgs l).2,x<=18446744073709551615:=fun x a=>by have:=(zlf l).lt x a;have:=zlg l;omega
def qo3(S3:St)(o1:Option (List zab))(cnt:Nat)(o2:Option (List Nat)):Option (List zab):=
 match S3,o1,o2 with
 |some _,some E,some P=>if E.Nodup/\qdw P=some cnt then some (P.map fun p=>E.getD p zku) else none
 |_,_,_=>none
theorem qfw{t n:Int}{b x y:List Nat}{cnt sz:Nat}{S1 S2 u S4:St}{X:Option (List zab)}{Y:Option (List Nat)}(T:∀x∈b,x<256)(hb:b.length<=140737488355200)(hn:n<=9223372036854775807)
 (k1:lenS n (some b)=(cnt,S1))(k2:lenS ((S1.getD []).length:Int) S1=(sz,S2))(a:zcv (sz:Int) S2=(x,u))(W:IsPl zaj t x (cnt:Int) X)
 (g:zcv ((u.getD []).length:Int) u=(y,S4))(U:IsDec y n Y):IsDic t b n (qo3 u X cnt Y):=by
 constructor
 ·intro l j
  unfold qo3 at j;split at j
  ·rename_i r E P
   split at j
   ·rename_i F
    obtain⟨G,H⟩:=F;injection j with j;obtain⟨p1,p2,p3⟩:=W.sound E rfl;obtain⟨d1,d2,d3,d4⟩:=(U P).1 rfl;have m:E.length=cnt:=by omega
    have k:IsEnt l E P:=⟨G,j,by rw[H,m]⟩;have hU:=k.uniq;have hL:=k.len;refine⟨by omega,?_,?_⟩
    ·unfold zi7
     rw[hU];dsimp only;rw[p2];dsimp only;rw[if_pos (by omega)];congr 1
     rcases zbx n (some b) (qxp T) with q|⟨N,Z,v,q1,_,q⟩
     ·rw[q] at k1
      injection k1 with k1 f;subst k1 f;rw[zhu] at k2;injection k2 with k2 d;subst k2 d;rw[zeh] at a;injection a with _ a;cases a
     ·rw[q] at k1
      injection k1 with k1 f;subst k1 f;injection v with v;have B:St.ok (some Z):=qxp fun z hz=>T z (by rw[v];simp[hz])
      rcases zbx _ (some Z) B with Q|⟨M,r2,w,q3,_,Q⟩
      ·rw[Q] at k2
       injection k2 with k2 d;subst k2 d;rw[zeh] at a;injection a with _ a;cases a
      ·rw[Q] at k2
       injection k2 with k2 d;subst k2 d;injection w with w;rcases zcl (M:Int) (some r2) with R|⟨l2,A,_,e5,R⟩
       ·rw[R] at a
        injection a with _ a;cases a
       ·rw[R] at a
        injection A with A;injection a with a e;injection e with e;subst A;rw[qrn] at a e;have hy:y=r:=by have:=zea r [];rw[qra] at this;simp only[qsi] at g;rw[this] at g;injection g with g _;exact g.symm
        have hx:x.length=M:=by rw[<-a,qqx];omega
        rw[d4,hy,m,hx,v,w,<-e,<-a];simp
    ·intro c o
     rw[<-j] at o;obtain⟨p,K,rfl⟩:=qqu.1 o;have s:=k.lt p K;refine p3 _ ?_;rw[qsh,qqt s];exact qrf s
   ·cases j
  ·cases j
 ·intro l I a3 i
  have k:=zlf l;have a0:=zlg l;have L:=fun h=>zjn (l:=l) h
  have C:∀c∈(zgs l).1,zaj c:=fun c F=>I c ((zmd l c).1 F)
  unfold zi7 at i;split at i
  ·cases i
  ·rename_i V hV
   split at i
   ·rename_i J
    have L:=L J;have hL:=k.len;have hN:=k.nodup;have hM:=k.map;have hO:=k.ord;generalize(zgs l).1=E at*;generalize(zgs l).2=P at*;injection i with i;have a1:lenS n (some b)=(E.length,some (vp V.length++(V++zlu P))):=by rw[<-i,qrc,qrc];exact zb9 _ _ (by omega) hn
    rw[a1] at k1;injection k1 with k1 f;subst k1 f;have D:=congrArg List.length i;simp only[qrp] at D;have a2:lenS (((some (vp V.length++(V++zlu P)):St).getD []).length:Int) (some (vp V.length++(V++zlu P)))=(V.length,some (V++zlu P)):=by
     refine zb9 _ _ ?_ ?_
     ·simp only[qsi,qrp];omega
     ·simp only[qsi,qrp];omega
    rw[a2] at k2;injection k2 with k2 d;subst k2 d;rw[zea] at a;injection a with a e;subst a e;have S:=zea (zlu P) [];rw[qra] at S;simp only[qsi] at g;rw[S] at g;injection g with g O;subst g O;rw[W.compl E C rfl hV,(U P).2 ⟨by omega,by omega,L,rfl⟩];unfold qo3;dsimp only;rw[if_pos ⟨hN,hO⟩,hM]
   ·cases i
def qmj(S:St):zdp × St:=if(zbn (lenS 65536 S).2).1=0/\(zbn (lenS 65536 S).2).2≠none then((((lenS 65536 S).1:Int),false,zbb,zbb),(zbn (lenS 65536 S).2).2) else(zb4,none)
def zpf(s:zdp)(g:Nat)(S:St)(w:World)(e:Ending)(w':World):Prop:=e= .returned (zcm s)/\CurS w' g S/\w.grownBy w' (some g)
theorem qld{w:World}{g:Nat}{S:St}{t:Int}(h:CurS w g S)(h1:(zbn (lenS 65536 S).2).1≠1)(ht:0<=t/\t<=3):
 Calls Tryz.prog 138 #[.pointer (some ⟨g,0,none⟩),.int .i64 t] w
  (zpf (qmj S).1 g (qmj S).2 w):=by
 obtain⟨X,a⟩:∃X,X=qmj S:=⟨_,rfl⟩;rw[<-a];unfold qmj at a;have a4:=zdo (m:=65536) S (by omega) h.ok;have a5:=h.lt;have ha:New w (w.alloc (.cells (zci zb4).toArray 133)):=(qwd _ _).alloc (qq0 _) _;have h0:=h.below ha;have L1:=qwk (zei (m:=65536) h0 (by omega) (by omega));have D:Blk (w.alloc (.cells (zci zb4).toArray 133)) w.heap.size 133 (zci zb4).toArray:=qw1 _ _ _;generalize lenS 65536 S=H at*;obtain⟨n,S1⟩:=H;dsimp only at*;have K:=zo9 (S:=S1);have J:zcj t ((n:Int),false,zbb,zbb)=true:=by unfold zcj;rw[if_neg (by dsimp only;omega)];simp
 have U:=fun(W:World)=>zh0 (w:=W) (t:=t) (s:=((n:Int),false,zbb,zbb)) (by unfold zew zbb;simp)
 rw[J] at U;have U:Hid (∀W,Calls Tryz.prog 133 #[.int .i64 t,.agg #[.int .i64 (n:Int),.bool false,.bool false,.int .i64 0,.string ⟨#[]⟩,.int .i64 0,.int .i64 0,.bool false,.int .i64 0,.string ⟨#[]⟩,.int .i64 0,.int .i64 0]] W (zap (.bool true) W)):=qwk U;have d:=qwk a;clear J h a;go_enter Tryz.func138,Tryz.ntmps138
 go_wp2_with fail
 refine L1.out.mono ?_;rintro e w1 ⟨rfl,o,V⟩;have K:=K o.ok;have C2:=qwk (zjm (o.below ((qwd _ _).alloc (qq0 _) (.cells #[.int .i64 (n:Int),.bool false,.bool false,.int .i64 0,.string ⟨#[]⟩,.int .i64 0,.int .i64 0,.bool false,.int .i64 0,.string ⟨#[]⟩,.int .i64 0,.int .i64 0] 133))));have a1:=V.size;have E:=(D.grown V (by intro e;injection e with e;omega)).alloc (.cells #[.int .i64 (n:Int),.bool false,.bool false,.int .i64 0,.string ⟨#[]⟩,.int .i64 0,.int .i64 0,.bool false,.int .i64 0,.string ⟨#[]⟩,.int .i64 0,.int .i64 0] 133);have C:=qw1 w1 133 #[.int .i64 (n:Int),.bool false,.bool false,.int .i64 0,.string ⟨#[]⟩,.int .i64 0,.int .i64 0,.bool false,.int .i64 0,.string ⟨#[]⟩,.int .i64 0,.int .i64 0];have G1:=(qw9 ha (g:=g)).trans (V.trans (qw9 ((qwd _ w1).alloc (qq0 _) (.cells #[.int .i64 (n:Int),.bool false,.bool false,.int .i64 0,.string ⟨#[]⟩,.int .i64 0,.int .i64 0,.bool false,.int .i64 0,.string ⟨#[]⟩,.int .i64 0,.int .i64 0] 133))));generalize zbn S1=Bq at*;obtain⟨y,S2⟩:=Bq;dsimp only at*;clear L1 h0 D o V ha;go_wp2_with fail
 refine C2.out.mono ?_;rintro e w2 ⟨rfl,c,I⟩;have a2:=I.size;simp only[qww] at a1 a2;have u:=E.grown I (by intro e;injection e with e;omega);have x:=C.grown I (by intro e;injection e with e;omega);have z:=G1.trans I;clear C2 E C G1 I;obtain⟨Y,Z,x2,x3,x4,x5,x6,x7,x8,x9,p,q⟩:=zbd x;have y1:((y:Int)==1)=false:=beq_eq_false_iff_ne.2 (by omega);by_cases hy:1<y
 ·have a:=d.out
  rw[if_neg (by omega)] at a;clear d;have d:=qwk a;clear a;have t1:decide ((1:Int)<(y:Int))=true:=by simp;omega
  have F:=qwk (zqp c);go_wp2_with fail
  refine F.out.mono ?_;rintro e w3 ⟨rfl,k,l⟩;have L:=l.size;have b:=u.grown l (by intro e;injection e with e;omega);have G:=qwk (z.trans l);have f:=qwk k;clear F u x z l Y Z x2 x3 x4 x5 x6 x7 x8 x9 p q c k
  go_wp2_with (refine zal rfl 133 (.tmp 4) (.tmp 37) rfl w.heap.size _ rfl rfl b (by kernel_rfl) (by simp[zci,zb4,zay]) (by simp[Value.oneCell']) ?_
               intro W5 B r;obtain⟨M,o,c,k,N,O,P,Q,R,T,i,j⟩:=zbd B)
  have a:=d.out;subst a;exact bodyPost_ret (v:=zcm zb4) (by simp[results,Tryz.results138,go_sem,M,o,c,k,N,O,P,Q,R,T,i,j,zcm,zci,zay,zb4,zbb,show zaf []=⟨#[]⟩ from rfl]) rfl ⟨rfl,f.out.keep r b (by omega) (by decide),zbf G.out r (qq0 _)⟩
 ·obtain rfl:y=0:=by omega
  have t1:decide ((1:Int)<((0:Nat):Int))=false:=by simp
  have BD:=qwk (qir c);cases S2 with
  |none=>
   have a:=d.out;rw[if_neg (by simp)] at a;clear d;have d:=qwk a;clear a;go_wp2_with fail
   refine BD.out.mono ?_;rintro e a3 ⟨rfl,rfl⟩;have F:=qwk (zqp c);go_wp2_with fail
   refine F.out.mono ?_;rintro e w3 ⟨rfl,k,l⟩;have L:=l.size;have b:=u.grown l (by intro e;injection e with e;omega);have G:=qwk (z.trans l);have f:=qwk k;clear F u x z l Y Z x2 x3 x4 x5 x6 x7 x8 x9 p q c k
   go_wp2_with (refine zal rfl 133 (.tmp 4) (.tmp 37) rfl w.heap.size _ rfl rfl b (by kernel_rfl) (by simp[zci,zb4,zay]) (by simp[Value.oneCell']) ?_
                intro W5 B r;obtain⟨M,o,c,k,N,O,P,Q,R,T,i,j⟩:=zbd B)
   have a:=d.out;subst a;exact bodyPost_ret (v:=zcm zb4) (by simp[results,Tryz.results138,go_sem,M,o,c,k,N,O,P,Q,R,T,i,j,zcm,zci,zay,zb4,zbb,show zaf []=⟨#[]⟩ from rfl]) rfl ⟨rfl,f.out.keep r b (by omega) (by decide),zbf G.out r (qq0 _)⟩
  |some S2=>
   have a:=d.out;rw[if_pos ⟨rfl,by simp⟩] at a;clear d;have d:=qwk a;clear a;go_wp2_with fail
   refine BD.out.mono ?_;rintro e a3 ⟨rfl,rfl⟩;go_wp2_with fail
   refine(U.out _).mono ?_;rintro e w3 ⟨rfl,A⟩;have L:=A.size;have b:=u.below A u.lt;have a0:=x.below A x.lt;have G:=qwk (z.trans (qw9 A));have f:=qwk (c.below A);clear u x z A Y Z x2 x3 x4 x5 x6 x7 x8 x9 p q c;obtain⟨Y,Z,x2,x3,x4,x5,x6,x7,x8,x9,p,q⟩:=zbd a0
   go_wp2_with (refine zal rfl 133 (.tmp 4) (.tmp 38) rfl w.heap.size _ rfl rfl b (by kernel_rfl) (by simp[zci,zb4,zay]) (by simp[Value.oneCell']) ?_
                intro W5 B r;obtain⟨M,o,c,k,N,O,P,Q,R,T,i,j⟩:=zbd B)
   have a:=d.out;subst a;exact bodyPost_ret (v:=zcm ((n:Int),false,zbb,zbb)) (by simp[results,Tryz.results138,go_sem,M,o,c,k,N,O,P,Q,R,T,i,j,zcm,zci,zay,zbb,show zaf []=⟨#[]⟩ from rfl]) rfl ⟨rfl,f.out.keep r b (by omega) (by decide),zbf G.out r (qq0 _)⟩
end Go.Proofs.Y
namespace Go.Hm
open Go Go.RowKit
theorem qg8(k:IntKind)(l:List Int)(i:Nat)(x:Int):(za5 k l).set i (.int k x)=za5 k (l.set i x):=by simp[za5]
theorem zeu(k:IntKind)(n:Nat)(x:Int):za5 k (List.replicate n x)=List.replicate n (.int k x):=by simp[za5]
theorem Own.int0{w:World}{base:Nat}{e:TypeId}{g n c i:Nat}{k:IntKind}{l:List Int}(h:Own w base e (.slice (some ⟨g,0,none⟩) n c) (za5 k l))(hi:i<n):
 base<=g/\g<w.heap.size/\w.cell? ⟨g,i,none⟩=some (.int k (l.getD i 0))/\w.frozen? ⟨g,i,none⟩=false/\
  ∀y:Int,Own (w.setCell ⟨g,i,none⟩ (.int k y)) base e (.slice (some ⟨g,0,none⟩) n c) (za5 k (l.set i y)):=by
 have o:=h.len;rw[zib] at o;obtain⟨u,a,b,d,f,j,m⟩:=h.at0 hi;rw[zpq k l i (by omega)] at a;injection a with a;subst a;exact⟨b,d,f,j,fun y=>by rw[<-qg8];exact m _⟩
theorem zm3{P:List Int}{n k:Nat}(q:Int)(a:P.length=k)(b:k<n):(P++List.replicate (n-k) 0).set k q=(P++[q])++List.replicate (n-(k+1)) 0:=by rw[qsy _ _ (by omega),a,qsz,show n-k=(n-(k+1))+1 by omega,qs0,qs1,qrc];rfl
theorem zx0{P:List Nat}{n k:Nat}(q:Nat)(a:P.length=k)(b:k<n):(P++List.replicate (n-k) 0).set k q=(P++[q])++List.replicate (n-(k+1)) 0:=by rw[qsy _ _ (by omega),a,qsz,show n-k=(n-(k+1))+1 by omega,qs0,qs1,qrc];rfl
end Go.Hm
namespace Go.Proofs.Y
open Go.RowKit Go.Hm
def qg9(l:List Int)(w:World)(e:Ending)(w':World):Prop:=∃A n c,e= .returned (.slice A n c)/\Go.Hm.Own w' w.heap.size 3 (.slice A n c) (za5 .i64 l)/\New w w'
def OptI(o:Option (List Int))(w:World)(e:Ending)(w':World):Prop:=
 match o with
 |none=>e= .returned (.tuple #[.slice none 0 0,.bool false])/\New w w'
 |some l=>∃A n c,e= .returned (.tuple #[.slice A n c,.bool true])/\Go.Hm.Own w' w.heap.size 3 (.slice A n c) (za5 .i64 l)/\New w w'
theorem qha{w:World}{A:Option Addr}{n c:Nat}{l:List Int}(h:Reads w w.heap.size 1 A n (za5 .i64 l))(p:0<n)(G:n<=1000000):
 Calls Tryz.prog 209 #[.slice A n c] w (zd5 (.int .i64 (leastD l)) w):=by
 obtain rfl:=h.lenI;obtain⟨E,rfl,_,o⟩:=h.int p;rw[zgi] at o;have I: ¬(l.length:Int)<1:=by omega
 have J: ¬l.length<1:=by omega
 have K:(0:Int)<(l.length:Int):=by omega
 have s:=qwk h;have t:Hid (zhw l 0=l.getD 0 0):=qwk rfl;have B:Hid (∀j,0<j->zhw l j=min (zhw l (j-1)) (l.getD j 0)):=qwk (fun j D=>by obtain⟨k,rfl⟩:∃k,j=k+1:=⟨j-1,by omega⟩;rfl)
 have u:Hid (leastD l=zhw l (l.length-1)):=qwk rfl;clear h;generalize leastD l=z at*;generalize zhw l=d at*;generalize l.getD 0 0=L at*;go_enter Tryz.func209,Tryz.ntmps209
 go_wp2_with fail
 go_loop [3,4] (fun v i=>∃j:Nat,0<j/\j<=l.length/\i= .int .i64 (j:Int)/\v= .int .i64 (d (j-1))) (fun _ i=>l.length+1-(intOf i).toNat)
 case atStart=>exact⟨1,by omega,p,rfl,by rw[qsz,t.out]⟩
 case round=>
  obtain⟨j,f,D,rfl,rfl⟩:=hrel;clear o;by_cases m:j<l.length
  ·obtain⟨C,e,_,F⟩:=s.out.int m
   injection e with e;subst e;have q:=B.out j f;have a:=qwk q;clear q;have g:(j:Int)<(l.length:Int):=by omega
   have H:IntKind.i64.wrap ((j:Int)+1)=(j:Int)+1:=by rw[qwr];omega
   generalize l.getD j 0=x at*;generalize d (j-1)=y at*;go_wp2_with fail
   go_round
   case rel=>exact⟨j+1,by omega,by omega,by go_num,by first|(rw[qu4,a.out];done)|(rw[qu4,a.out];exact congrArg (Value.int .i64) (by split<;> omega))⟩
   case measure=>simp[intOf];omega
  ·have b:j=l.length:=by omega
   have g: ¬(j:Int)<(l.length:Int):=by omega
   have r:d (j-1)=z:=by rw[u.out,b]
   rw[r];clear b r;go_wp2_with fail
   go_ret
   exact⟨rfl,rfl⟩
theorem z6j{w:World}{A:Option Addr}{n c:Nat}{l:List Int}(h:Reads w w.heap.size 1 A n (za5 .i64 l))(hn:n<=1000000):
 Calls Tryz.prog 195 #[.slice A n c] w (qg9 (zeb l) w):=by
 obtain rfl:=h.lenI;have M:=qwk h;have F:=ze5 l;have G:=qwk (zwk l);have H:Hid (l.length=0->zeb l=[]):=qwk (fun e=>by rw[qrh e];rfl);clear h;generalize zeb l=S at*;by_cases t:l.length=0
 ·have O:((l.length:Int)==0)=true:=by rw[t];rfl
  have u:=H.out t;have R:=qwk u;have H0:=qwk t;clear F t u;go_enter Tryz.func195,Tryz.ntmps195
  go_wp2
  go_ret
  exact⟨none,0,0,rfl,by rw[R.out];exact qw0,qw4 _⟩
 ·have O:((l.length:Int)==0)=false:=by rw[beq_eq_false_iff_ne];omega
  obtain⟨m,P⟩:∃m,m=l.length-1:=⟨_,rfl⟩;rw[<-P] at F;have d:l.length=m+1:=by omega
  have J:IntKind.i64.wrap ((l.length:Int)-1)=(m:Int):=by rw[qwr];omega
  have g:=qwk d;have r:=qwk F;clear P d F t;go_enter Tryz.func195,Tryz.ntmps195
  go_wp2_with (refine zcf elI rfl (.tmp 10) (.tmp 10) rfl (W:=w) (B:=w.heap.size) m m rfl rfl rfl rfl (qq0 _) (qwd _ _) (qq0 _) rfl (by have:=g.out;omega) (by have:=g.out;simp only[maxLen];omega) ?_
               intro w1 Q _ N s1)
  clear J O;go_loopw [14] (fun i wr=>∃k:Nat,k<=m/\i= .int .i64 (k:Int)/\Go.Hm.Own wr w.heap.size 3 (.slice (some ⟨w.heap.size,0,none⟩) m m) (za5 .i64 (S.take k++List.replicate (m-k) 0))/\New w wr) (fun i _=>m-(intOf i).toNat)
  case atStart=>exact⟨0,qq1 _,rfl,by simpa[zeu] using Q,N⟩
  case round=>
   clear Q N s1;obtain⟨k,hk,rfl,o,b⟩:=hrel;by_cases C:k<m
   ·have d:=g.out
    obtain⟨ad,rfl,_,c0⟩:=(qxj M.out b).int (i:=k) (by omega);obtain⟨T,e,_,U⟩:=(qxj M.out b).int (i:=k+1) (by omega);injection e with e;subst e;have v:=G.out k (by omega);have E:=zac S k 0 (by have:=r.out;omega);obtain⟨V,X,hc,hf,f⟩:=o.int0 (i:=k) C;have D:(S.take k).length=k:=by rw[qqx];have:=r.out;omega
    have s:=f (S.getD k 0);rw[zm3 _ D C,<-E,v] at s;have a:=qwk s;generalize(S.take k++List.replicate (m-k) 0).getD k 0=z at*;generalize l.getD k 0=x at*;generalize l.getD (k+1) 0=y at*;have Y:IntKind.i64.wrap (y-x)=wrI (y-x):=rfl;obtain⟨j,I⟩:∃j,j=k+1:=⟨_,rfl⟩;rw[<-I] at U a;have Z:IntKind.i64.wrap ((k:Int)+1)=(j:Int):=by rw[qwr];omega
    have i1:(k:Int)<(m:Int):=by omega
    have i2:(k:Int)<(l.length:Int):=by omega
    have i3:(j:Int)<(l.length:Int):=by omega
    have L:=qwk I;have K:=qwk (fun q=>(below_drewN b q).setCell (p:=⟨w.heap.size,k,none⟩) (qq0 _) (.int .i64 (wrI (y-x))));clear v E f s D d I;go_wp2
    go_still_tail 13,(by kernel_rfl)
    go_wp2
    go_roundw
    case rel=>exact⟨j,by have:=L.out;omega,rfl,by first|exact a.out|exact(a.out).drewN _,by first|exact K.out _|exact K.out 0⟩
    case measure=>have:=L.out;simp[intOf];omega
   ·obtain rfl:k=m:=by omega
    have u:S.take k=S:=qru (by have:=r.out;omega);rw[u,qsz,qup,qra] at o;clear u;go_wp2
    go_ret
    exact⟨_,_,_,rfl,o,b⟩
theorem z6k(n:Nat)(w:World)(d:n<=1000000):Calls Tryz.prog 196 #[.int .i64 (n:Int)] w (zd5 (.int .i64 (nblk n:Nat)) w):=by
 have c:IntKind.i64.wrap ((n:Int)+32)=(n:Int)+32:=by rw[qwr];omega
 have a:((n:Int)+31)/32=((nblk n:Nat):Int):=by unfold nblk;omega
 have b:=qwk a;clear a;generalize nblk n=q at*;go_enter Tryz.func196,Tryz.ntmps196
 go_wp2
 go_ret
 exact⟨congrArg (fun z=>Ending.returned (.int .i64 z)) (by have:=b.out;omega),rfl⟩
theorem zx1{w:World}{A:Option Addr}{n c:Nat}{l:List Int}(h:Reads w w.heap.size 1 A n (za5 .i64 l))(L:∀x∈l,zf9 x)(h0:0<n)(hn:n<=65536):
 Calls Tryz.prog 197 #[.slice A n c] w (OptB (some (blockD l)) w):=by
 obtain rfl:=h.lenI;have U:=qwk (qha (c:=c) h h0 (by omega));have HR:=qwk h;have a:=zl9 L h0;have X:=qwk (fun W:World=>zqh (leastD l) W a.1 a.2);have V:=qwk (fun W:World=>zdc none 0 0 [] (zig (leastD l)) W qwy (by omega) (by have:=zk4 a;omega));have a2:=zae (zk4 a);have s:=zma L;have g:=zqj l;have hw:=zk2 _ s;have Q:=zge (zdz l) (wid (zdz l)) hw (by rw[g];exact hn) (qq0 _);have hm:(wid (zdz l)*l.length+7)/8<=524288:=by have:=quy hw hn;omega
 have F:(low (pk (wid (zdz l)) (zdz l)) ((wid (zdz l)*l.length+7)/8)).length=(wid (zdz l)*l.length+7)/8:=za0 _ _;rw[g] at Q;have N:Hid (∀k,k<l.length->(zdz l).getD k 0=(l.getD k 0-leastD l).toNat/\zf9 (l.getD k 0)/\leastD l<=l.getD k 0):=qwk (fun k J=>by refine⟨?_,L _ (zhx J),zqi (zhx J)⟩;unfold zdz;rw[qsh,qtk,qsh,qqt J];rfl)
 have HB:Hid (blockD l=vp (zig (leastD l))++[wid (zdz l)]++low (pk (wid (zdz l)) (zdz l)) ((wid (zdz l)*l.length+7)/8)):=qwk (by unfold blockD;simp);have r:=qwk g;have y:=qwk s;have P:=qwk Q;have O:=qwk a;clear h L Q g s a;generalize blockD l=BD at*;generalize low (pk (wid (zdz l)) (zdz l)) ((wid (zdz l)*l.length+7)/8)=PB at*;generalize(wid (zdz l)*l.length+7)/8=pm at*;generalize zdz l=D at*;generalize leastD l=M at*;subst F;go_enter Tryz.func197,Tryz.ntmps197
 go_wp2_with fail
 refine U.out.mono ?_;rintro e w1 ⟨rfl,rfl⟩;clear U
 go_wp2_with (refine zcf elW rfl (.tmp 15) (.tmp 15) rfl (W:=w) (B:=w.heap.size) l.length l.length rfl rfl rfl rfl (qq0 _) (qwd _ _) (qq0 _) rfl (by omega) (by simp only[maxLen];omega) ?_
              intro w1 o1 _ Y s1)
 go_loopw [19] (fun i wr=>∃k:Nat,k<=l.length/\i= .int .i64 (k:Int)/\Go.Hm.Own wr w.heap.size 138 (.slice (some ⟨w.heap.size,0,none⟩) l.length l.length) (zar .u64 (D.take k++List.replicate (l.length-k) 0))/\New w wr) (fun i _=>l.length-(intOf i).toNat)
 case atStart=>exact⟨0,qq1 _,rfl,by simpa[zb5] using o1,Y⟩
 case round=>
  clear o1 Y s1;obtain⟨k,J,rfl,o,b⟩:=hrel;by_cases f:k<l.length
  ·obtain⟨ad,rfl,_,c0⟩:=(qxj HR.out b).int f
   obtain⟨e1,e2,e3⟩:=N.out k f;have H:=zac D k 0 (by have:=r.out;omega);obtain⟨a0,a1,hc,hf,m⟩:=o.num0 (i:=k) f;have G:(D.take k).length=k:=by rw[qqx];have:=r.out;omega
   have t:=m (D.getD k 0);rw[zx0 _ G f,<-H,e1] at t;have j:=qwk t;generalize(D.take k++List.replicate (l.length-k) 0).getD k 0=z at*;generalize l.getD k 0=x at*;have a:=O.out;unfold zf9 at e2 a;have a3:IntKind.u64.wrap (IntKind.u64.wrap x-IntKind.u64.wrap M)=(((x-M).toNat:Nat):Int):=by rw[qwp,qwp,qwp];omega
   generalize(x-M).toNat=d at*;have i1:(k:Int)<(l.length:Int):=by omega
   have v:=qwk (fun q=>(below_drewN b q).setCell (p:=⟨w.heap.size,k,none⟩) (qq0 _) (.int .u64 (d:Int)));clear e1 e2 e3 a H m t G;go_wp2
   go_roundw
   case rel=>exact⟨k+1,by omega,by go_num,by first|exact j.out|exact(j.out).drewN _,by first|exact v.out _|exact v.out 0⟩
   case measure=>simp[intOf];omega
  ·obtain rfl:k=l.length:=by omega
   have hS:D.take l.length=D:=qru (by have:=r.out;omega);rw[hS,qsz,qup,qra] at o;have W:=qwk (zl8 (c:=l.length) o.reads y.out (by omega));have K:=zo7 (c:=l.length) (wid D:Int) o.reads y.out (by omega) (by omega) (by omega);rw[P.out] at K;replace K:=qwk K;generalize wid D=q at*;clear hS o;go_wp2_with fail
   refine W.out.mono ?_;rintro e w1 ⟨rfl,rfl⟩;go_wp2_with fail
   refine K.out.mono ?_;rintro e w2 ⟨A2,n2,c2,rfl,I,b2⟩;obtain rfl:n2=PB.length:=by have:=I.len;rwa[zaa] at this
   clear W K;have C:=qw5 b b2;have a4:IntKind.u8.wrap (q:Int)=(q:Int):=by rw[qwl];omega
   go_wp2_with fail
   refine(X.out _).mono ?_;rintro e w3 ⟨rfl,rfl⟩;go_wp2_with fail
   refine(V.out _).mono ?_;rintro e w3 ⟨A3,n3,c3,rfl,u,R⟩;rw[qrr] at u;obtain rfl:n3=(vp (zig M)).length:=by have:=u.len;rwa[zaa] at this
   have E:=qw5 C R;have z3:=R.size;have S:=zgu (ziw u (I.base_le (qq1 _)));have I:=I.later R;have u:=u.base_le (b':=w.heap.size) C.size;clear X V;go_wp2_with (first
    |(refine zcs elB rfl (.tmp 43) (.tmp 46) rfl (W:=w) (B:=w.heap.size) u rfl rfl q rfl E (qq0 _) E.size (by omega) (by simp only[maxLen];omega) ?_
      intro A4 c4 w4 _ _ o4 g4 Z _ d4;have p2:=I.kept g4 S;have T:=Z.size)
    |(refine zaq elB rfl (.tmp 48) (.tmp 49) rfl (W:=w) (B:=w.heap.size) o4 p2.reads rfl rfl Z (qq0 _) T (by omega) (by simp only[maxLen];omega) ?_
      intro A5 c5 w5 _ _ o5 _ b5 _))
   go_ret2
   refine⟨A5,_,c5,rfl,?_,b5⟩;rw[HB.out];exact o5
end Go.Proofs.Y
namespace Go.Hm
open Go Go.RowKit
theorem IsStat.near{t:Int}{l:List zab}{s:zdp}(h:IsStat t l s)(a:∀c∈l,near c):near s.2.2.1/\near s.2.2.2:=by
 cases hh:s.2.1 with
 |false=>
  obtain⟨b,d⟩:=h.none hh;rw[b,d];exact⟨qng,qng⟩
 |true=>exact⟨a _ (h.least hh).1.1,a _ (h.most hh).1.1⟩
end Go.Hm
namespace Go.Proofs.Y
open Go.RowKit Go.Hm
def qhi(t:Int)(L:List zab)(w:World)(e:Ending)(w':World):Prop:=∃s,e= .returned (zcm s)/\IsStat t L s/\New w w'
theorem qnt{w:World}{t:Int}{A:Option Addr}{n c:Nat}{L:List zab}(h:Reads w w.heap.size 5 A n (recs zay L))(hL:∀y∈L,near y)(hn:n<=100000):
 Calls Tryz.prog 109 #[.int .i64 t,.slice A n c] w (qhi t L w):=by
 obtain rfl:=h.lenCell;have HR:=qwk h;have HN:=qwk hL;clear h hL;have j:Blk ((w.alloc (.cells (zci zb4).toArray 133)).alloc (.cells (zci zb4).toArray 133)) w.heap.size 133 (zci zb4).toArray:=(qw1 _ _ _).alloc _;have d:Blk ((w.alloc (.cells (zci zb4).toArray 133)).alloc (.cells (zci zb4).toArray 133)) (w.heap.size+1) 133 (zci zb4).toArray:=by have:=qw1 (w.alloc (.cells (zci zb4).toArray 133)) 133 (zci zb4).toArray;simpa using this
 have O:=zzx w (.cells (zci zb4).toArray 133) (.cells (zci zb4).toArray 133);have I:=qwk j;have J:=qwk d;have N:=qwk O;clear j d O;go_enter Tryz.func109,Tryz.ntmps109
 go_wp2_with fail
 go_loopw [10] (fun i wr=>∃(k:Nat) (s:zdp),k<=L.length/\i= .int .i64 (k:Int)/\Blk wr (w.heap.size+1) 133 (zci s).toArray/\Blk wr w.heap.size 133 (zci zb4).toArray/\New w wr/\Hid (IsStat t (L.take k) s)) (fun i _=>L.length-(intOf i).toNat)
 case atStart=>exact⟨0,zb4,qq1 _,rfl,J.out,I.out,N.out,qwk (zs6 t)⟩
 case round=>
  obtain⟨k,s,hk,rfl,d,j,hW,hs⟩:=hrel;clear I J N;by_cases m:k<L.length
  ·obtain⟨ad,rfl,hb,d0,d1,d2,d3,d4⟩:=(qxj HR.out hW).cell5 m
   have o:=hs.out;have Q:=zac L k (false,0,[],0,0) m;have u:=o.near (fun c hc=>HN.out c (qro hc));have a4:=o.nulls;have q:=zjo (L.take k);rw[qqx] at q;have hy:near (L.getD k (false,0,[],0,0)):=HN.out _ (by rw[qsh,qqt m];exact qrf m);have g:=zs7 t (L.getD k (false,0,[],0,0));have x:=o.merge g;rw[<-Q] at x;have l:=g.near (fun c hc=>by rw[qr6.1 hc];exact hy);have a5:=g.nulls;have r:=zjo [L.getD k (false,0,[],0,0)];rw[qu0] at r;have M:=fun(W:World)=>qal (w:=W) (t:=t) u.1 u.2 l.1 l.2 (by omega) (by omega)
   clear Q hy g a4 q a5 r u l o hs;generalize L.getD k (false,0,[],0,0)=y at*;obtain⟨B,C,D,E,G⟩:=y;dsimp only at d0 d1 d2 d3 d4;obtain⟨V1,hV⟩:∃V,V=zcm (zlj (B,C,D,E,G)):=⟨_,rfl⟩;have S1:Hid (∀W,Calls Tryz.prog 130 #[.agg #[.bool B,.int .i64 C,.string (zaf D),.int .i64 E,.int .i64 G]] W (zap V1 W)):=qwk fun W=>by rw[hV];exact z5i (B,C,D,E,G)
   rw[<-hV] at M;generalize zok t s (zlj (B,C,D,E,G))=s2 at*;obtain⟨n,b,⟨p1,p2,p3,p4,p5⟩,⟨q1,q2,q3,q4,q5⟩⟩:=s;obtain⟨n',b',⟨R,S,T,U,X⟩,⟨Y,Z,a0,a1,a2⟩⟩:=s2;have M1:Hid (∀W,Calls Tryz.prog 129 #[.int .i64 t,.agg #[.int .i64 n,.bool b,.bool p1,.int .i64 p2,.string (zaf p3),.int .i64 p4,.int .i64 p5,.bool q1,.int .i64 q2,.string (zaf q3),.int .i64 q4,.int .i64 q5],V1] W
    (zap (.agg #[.int .i64 n',.bool b',.bool R,.int .i64 S,.string (zaf T),.int .i64 U,.int .i64 X,.bool Y,.int .i64 Z,.string (zaf a0),.int .i64 a1,.int .i64 a2]) W)):=qwk M
   clear M hV;have a3:=qwk x;clear x;have b0:=hW.size;have F:Hid (∀W,New (wr.alloc (.cells #[.bool B,.int .i64 C,.string (zaf D),.int .i64 E,.int .i64 G] 75)) W->Blk W (w.heap.size+1) 133 #[.int .i64 n,.bool b,.bool p1,.int .i64 p2,.string (zaf p3),.int .i64 p4,.int .i64 p5,.bool q1,.int .i64 q2,.string (zaf q3),.int .i64 q4,.int .i64 q5]
    /\Blk W w.heap.size 133 (zci zb4).toArray/\New w W/\Blk W wr.heap.size 75 #[.bool B,.int .i64 C,.string (zaf D),.int .i64 E,.int .i64 G]):=qwk fun W hN=>
    ⟨(d.alloc _).below hN (by have:=d.lt;simp;omega),(j.alloc _).below hN (by have:=j.lt;simp;omega),qw5 hW (qw5 ((qwd _ _).alloc (qq0 _) _) hN),(qw1 _ _ _).below hN (by simp)⟩
   clear j d;go_wp2_with fail
   refine zc6 New 5 [(1,0),(0,1),(0,2),(2,3),(2,4),(2,5)] qw4 qw5 (by kernel_rfl) (by kernel_rfl) (by kernel_rfl) (by kernel_rfl) ?_;have H:=qw6 (wr.alloc (.cells #[.bool B,.int .i64 C,.string (zaf D),.int .i64 E,.int .i64 G] 75));repeat(first
    |(refine zbh rfl rfl (fun K p=>?_);go_simp
      (with_reducible refine(S1.out _).mono ?_);rintro e w6 ⟨rfl,b6⟩
      refine p _ _ (.inr (.inr b6)) ?_;clear p;replace H:=qw5 H b6)
    |(refine zbh rfl rfl (fun K p=>?_);go_simp
      (with_reducible refine(M1.out _).mono ?_);rintro e w7 ⟨rfl,b7⟩
      refine p _ _ (.inr (.inr b7)) ?_;clear p;replace H:=qw5 H b7)
    |(refine zbh rfl rfl (fun K p=>?_)
      obtain⟨d,j,P,-⟩:=F.out _ H;refine z9i 133 (.tmp 5) (.tmp 18) rfl (w.heap.size+1) _ rfl rfl d (by kernel_rfl) (by simp) (by simp[Value.oneCell']) ?_;intro W5 d a f;replace j:=f _ _ _ (by omega) j;replace P:=a _ _ P (by omega);refine p _ _ (.inr (.inl rfl)) ?_;clear p a f)
    |(refine zb8 rfl rfl (v:=?_) (fun W=>?_) ?_;rotate_left;(go_simp<;> with_reducible rfl);simp only[Act.put,qta,qs1,qtb])
    |(refine zc7 rfl rfl (v:=?_) (fun W hQ=>?_) ?_;rotate_left;(obtain⟨d,-,-,BY⟩:=F.out W (qw5 H hQ);obtain⟨x0,x1,x2,x3,x4,x5,x6,x7,x8,x9,a8,a9⟩:=zbd d;obtain⟨z0,z1,z2,z3,z4⟩:=zc3 BY;clear d BY;go_simp<;> with_reducible rfl);simp only[Act.put,qta,qs1,qtb]))
   refine zgm ?_;go_wp2_with fail
   go_roundw
   case rel=>exact⟨k+1,(n',b',(R,S,T,U,X),(Y,Z,a0,a1,a2)),by omega,by go_num,d,j,P,a3⟩
   case measure=>simp[intOf];omega
  ·obtain rfl:k=L.length:=by omega
   have z:=hs.out;rw[quw] at z;have HS:=qwk z;clear hs z;obtain⟨n,b,⟨p1,p2,p3,p4,p5⟩,⟨q1,q2,q3,q4,q5⟩⟩:=s;obtain⟨x0,x1,x2,x3,x4,x5,x6,x7,x8,x9,a8,a9⟩:=zbd d
   go_wp2_with (refine ziv rfl 133 (.tmp 4) (.tmp 20) rfl w.heap.size _ rfl rfl j (by kernel_rfl) (by simp[zci,zb4,zay]) (by simp[Value.oneCell']) ?_
                intro W5 BR a f;have P:=a _ _ hW (qq0 _);clear f a;obtain⟨s0,s1,s2,s3,s4,s5,s6,s7,s8,s9,a6,a7⟩:=zbd BR)
   exact bodyPost_ret (v:=zcm (n,b,(p1,p2,p3,p4,p5),(q1,q2,q3,q4,q5))) (by simp[results,Tryz.results109,go_sem,s0,s1,s2,s3,s4,s5,s6,s7,s8,s9,a6,a7,zcm,zci,zay]) rfl ⟨_,rfl,HS.out,P⟩
end Go.Proofs.Y
