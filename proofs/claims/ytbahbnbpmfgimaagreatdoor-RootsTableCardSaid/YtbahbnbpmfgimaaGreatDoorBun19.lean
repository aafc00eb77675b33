import Derived.Test.YtbahbnbpmfgimaaGreatDoorBun18
set_option maxHeartbeats 2000000
set_option maxRecDepth 100000
namespace Go.Proofs.Y
open Go.RowKit Go.Hm
theorem zqu{w:World}{A:Option Addr}{c:Nat}{L:List Nat}(h:Reads w w.heap.size 1 A L.length (zar .u64 L))(B:L.length<=9223372036854775806):
 Calls Tryz.prog 207 #[.slice A L.length c] w (zap (.int .i64 (st L:Nat)) w):=by
 go_enter Tryz.func207,Tryz.ntmps207
 go_wp2
 go_loopw [3] (fun i wr=>∃k:Nat,k<=L.length/\i= .int .i64 (k:Int)/\Hid (∀j,j<k->L.getD j 0=L.getD 0 0)/\Below w.heap.size w wr) (fun i _=>L.length-(intOf i).toNat)
 case atStart=>exact⟨0,by omega,rfl,qwk (fun j t=>by omega),qwd _ _⟩
 case round=>
  obtain⟨k,x,rfl,e,f⟩:=hrel;by_cases n:k<L.length
  ·obtain⟨u,rfl,s,b⟩:=(h.below f).num n
   obtain⟨q,l,o,a⟩:=(h.below f).num (i:=0) (by omega);injection l with l;subst l;rw[zgi] at a;have v:(0:Int)<(L.length:Int):=by omega
   by_cases g:L.getD k 0=L.getD 0 0
   ·have p:=qwk (show∀j,j<k+1->L.getD j 0=L.getD 0 0 from fun j t=>by
     by_cases m:j=k
     ·rw[m];exact g
     ·exact e.out j (by omega))
    rw[g] at b;clear g e;generalize L.getD 0 0=y at*;go_wp2
    go_quiet (fail)
    go_wp2
    go_roundw
    case rel=>exact⟨k+1,by omega,by go_num,p,below_drewN f _⟩
    case measure=>simp[intOf];omega
   ·have d:=qwk (show st L=k from qfu (by omega) e.out (.inr g))
    have r:(((L.getD k 0:Nat):Int)==((L.getD 0 0:Nat):Int))=false:=by rw[beq_eq_false_iff_ne];omega
    clear g e;generalize L.getD k 0=y at*;generalize L.getD 0 0=z at*;go_wp2
    go_quiet (fail)
    go_wp2
    go_ret
    exact⟨by rw[d.out];simp,below_drewN f _⟩
  ·obtain rfl:k=L.length:=by omega
   have d:=qwk (show st L=L.length from qfu (by omega) e.out (.inl rfl));clear e;go_wp2
   go_quiet (fail)
   go_wp2
   go_ret
   exact⟨by rw[d.out];simp,below_drewN f _⟩
theorem z92{w:World}{A:Option Addr}{c:Nat}{L:List Nat}(h:Reads w w.heap.size 1 A L.length (zar .u64 L))(f:L.length<=9223372036854775806):
 Calls Tryz.prog 191 #[.slice A L.length c] w (zap (.bool (decide (4<=st L))) w):=by
 have S:=qwk (zqu (c:=c) h f);generalize st L=s at*;clear h;go_enter Tryz.func191,Tryz.ntmps191
 go_wp2_with fail
 refine S.out.mono ?_;rintro e g ⟨rfl,b⟩;by_cases a:4<=s
 ·have d:decide ((4:Int)<=(s:Int))=true:=decide_eq_true (by omega)
  rw[decide_eq_true a];go_wp2
  go_ret
  exact⟨by simp[a],b⟩
 ·have d:decide ((4:Int)<=(s:Int))=false:=decide_eq_false (by omega)
  rw[decide_eq_false a];go_wp2
  go_ret
  exact⟨by simp;omega,b⟩
end Go.Proofs.Y
namespace Go.Hm
open Go Go.RowKit
def zw9(x:Nat):zab:=(false,(x:Int),[],0,0)
theorem qao{l:List Nat}(h:∀x∈l,x<2):zep (l.map zw9)=l:=by
 unfold zep;rw[qsj];conv=>rhs;rw[<-qua l]
 refine qsk fun x a=>?_
 have:=h x a;show u64N (x:Int)=x;unfold u64N;omega
theorem qap{l:List zab}(h:∀c∈l,zad c 1 false=true):(zep l).map zw9=l:=by
 unfold zep;rw[qsj];conv=>rhs;rw[<-qua l]
 refine qsk fun c g=>?_
 have b:=h c g;have d:=zhz b;have f:=qip b;obtain⟨m,a,i,j,k⟩:=c;dsimp only at d f;subst d;have e:(i=[]/\j=0/\k=0)/\(a=0\/a=1):=by simpa[zad] using b
 obtain⟨⟨rfl,rfl,rfl⟩,-⟩:=e;show zw9 (u64N a)=(false,a,[],0,0);unfold zw9 u64N;rcases f with rfl|rfl<;> rfl
theorem z5k{x:Nat}(h:x<2):zad (zw9 x) 1 false=true:=by
 have:x=0\/x=1:=by omega
 rcases this with rfl|rfl<;> simp[zad,zw9]
end Go.Hm
namespace Go.Proofs.Y
open Go.RowKit Go.Hm
theorem zxa{b:List Nat}{n:Int}(s:∀x∈b,x<256):IsPl zaj 1 b n ((zch b 1 n).map fun l=>l.map zw9):=by
 constructor
 ·intro l g
  cases f:zch b 1 n with
  |none=>rw[f] at g;cases g
  |some k=>
   rw[f] at g;injection g with g;subst g;obtain⟨r,a,v,u,p⟩:=zld s f;have m:∀x∈k,x<2:=by have:=(zhj k 1 (by omega) u).1 (by omega);simpa using this
   have i:∀c∈k.map zw9,zad c 1 false=true:=fun c o=>by obtain⟨x,h,rfl⟩:=qqu.1 o;exact z5k (m x h)
   have d:=qfl i (by rw[qtl];exact p);rw[qao m,r] at d;injection d with d;refine⟨by rw[qtl];exact a,plO_iff.2 ⟨plOk_iff.2 ⟨⟨by omega,by omega,by rw[qtl];exact p⟩,i⟩,d.symm⟩,fun c o=>?_⟩;obtain⟨x,h,rfl⟩:=qqu.1 o;have:=m x h;unfold zaj zw9;exact⟨⟨by simp,by simp⟩,by dsimp only;omega⟩
 ·intro l _ a r
  obtain⟨q,t⟩:=plO_iff.1 r;obtain⟨⟨_,_,p⟩,i⟩:=plOk_iff.1 q;have j:(zep l).length=l.length:=by unfold zep;rw[qtl]
  have f:=zio (zep l) 1 (by omega) (by omega) (zqm i) (fun x h=>by unfold zep at h;obtain⟨y,_,rfl⟩:=qqu.1 h;have:=zzw y.2.1;omega);have e:low (pk 1 (zep l)) ((1*(zep l).length+7)/8)=b:=by rw[<-t];unfold plB;rw[if_pos rfl,j]
  rw[e,j,a] at f;have f:zch b 1 n=some (zep l):=f;rw[f];show some ((zep l).map zw9)=some l;rw[qap i]
end Go.Proofs.Y
namespace Go.Hm
open Go Go.RowKit
theorem z5l(a b c d f:Value)(n:Nat):(madeCells #[a,b,c,d,f] (n*5)).toList=(List.replicate n [a,b,c,d,f]).flatten:=by
 induction n with
 |zero=>simp[madeCells]
 |succ n h=>
  rw[qt4,qul,<-h];have e:∀m,m%5=0->(madeCells #[a,b,c,d,f] (m+5)).toList=(madeCells #[a,b,c,d,f] m).toList++[a,b,c,d,f]:=by intro m g;simp only[madeCells,qum,qun,quo,que,qrj,qrk,qrc,qr0,qrr,qrt,qr1,qub];rw[g,show(m+1)%5=1 by omega,show(m+2)%5=2 by omega,show(m+3)%5=3 by omega,show(m+4)%5=4 by omega];rfl
  rw[qsv,e (n*5) (by omega)];simp
section
variable{P:Program}{ops:Array Oper}{rest:List Oper}{o:Oper}{a:Act}{Q:Exit->Act->World->Prop}
theorem z0a{w:World}{t e:TypeId}{x y z u v:Value}{b:Nat}(E:ElT P t e (.agg #[x,y,z,u,v]) 5 b)(j:o.guard=none)(q p:Operand)(I:o.op=Op.makeSlice t q p)
 {W:World}{B:Nat}{kl kc:IntKind}{L C:Int}(n:Nat)(H:a.eval q= .int kl L)(F:a.eval p= .int kc C)(A:L=(n:Int))(r:C=(n:Int))(D:Below B W w)(d:B<=w.heap.size)
 (J:n*b<=140737488355328)(hm:n<=maxLen)
 (h:∀w',w'.ownsRow w.heap.size e 5 (.slice (some ⟨w.heap.size,0,none⟩) n n) n (List.replicate n [x,y,z,u,v]).flatten->w.grownBy w' none->Below B W w'->w'.heap.size=w.heap.size+1->wpList P ops Q rest (a.put o.dst (.slice (some ⟨w.heap.size,0,none⟩) n n)) w'):
 wpList P ops Q (o::rest) a w:=by
 obtain⟨i,G,m,l,f⟩:=info_parts E.hi;subst A r;have k:(n:Int)<=9223372036854775807:=by have h:=hm;simp only[maxLen] at h;omega
 have g:(i.bytes:Int)*(n:Int)<=281474976710656:=by
  have h:((i.bytes*n:Nat):Int)<=281474976710656:=by rw[f,qrl];omega
  rwa[qrm] at h
 have c:=run_make (P:=P) w t e i (.agg #[x,y,z,u,v]) E.ht G m kl kc (n:Int) (n:Int) (by omega) (by omega) g k;rw[qrn,l] at c;refine wpList_plain j fun K s=>?_
 unfold Oper.wp;simp[execOp,I,H,F,c,Result.andThen];refine s _ _ (h _ ?_ (qwf _ _ _) (D.alloc d _) (by simp));refine⟨by simp,.inr ⟨_,n,_,rfl,qq0 _,heap_alloc_new w _,qq0 _,hm,by simp[size_madeCells],?_⟩⟩;rw[qru (by simp[size_madeCells])];exact z5l x y z u v n
end
theorem qgi{A B:List zab}{z:Nat}:(recs zay (A++zbb::B)).set (A.length*5+1) (.int .i64 (z:Int))=recs zay (A++zw9 z::B):=by have l:(recs zay A).length=A.length*5:=zaw (sz:=5) (fun _=>rfl) A;rw[zbe,zbe,qsy _ _ (by omega),l,show A.length*5+1-A.length*5=1 by omega];congr 1
theorem qaq(n:Nat):(List.replicate n [Value.bool false,.int .i64 0,.string ⟨#[]⟩,.int .i64 0,.int .i64 0]).flatten=recs zay (List.replicate n zbb):=by
 induction n with
 |zero=>rfl
 |succ n b=>
  rw[qs0,qvg,b,qs0];rfl
end Go.Hm
namespace Go.Proofs.Y
open Go.RowKit Go.Hm
theorem zqy{w:World}{A:Option Addr}{c m:Nat}{b:List Nat}{n:Nat}(h:Reads w w.heap.size 1 A m (zar .u8 b))(D:∀x∈b,x<256)(hm:m<=140737488351232)(hn:n<=65536):
 Calls Tryz.prog 169 #[.slice A m c,.int .i64 (n:Int)] w (OptC ((zch b 1 (n:Int)).map fun l=>l.map zw9) w):=by
 obtain rfl:m=b.length:=h.len;have U:=qwk (z4r (c:=c) 1 (n:Int) h D (by omega) (by omega) (by omega) (by omega) (by omega));have s:=fun l=>zld (l:=l) (x:=1) (n:=(n:Int)) D
 clear h D;generalize zch b 1 (n:Int)=O at*;cases O with
 |none=>
  go_enter Tryz.func169,Tryz.ntmps169
  go_wp2_with fail
  refine U.out.mono ?_;rintro e f ⟨rfl,j⟩;go_wp2_with fail
  go_ret2
  exact⟨rfl,j⟩
 |some l=>
  obtain⟨-,r,hw,F,hf⟩:=s l rfl;have M:∀x∈l,x<2:=by have:=(zhj l 1 (by omega) F).1 (by omega);simpa using this
  obtain rfl:n=l.length:=by omega
  have R:=qwk M;clear s r hw F M;go_enter Tryz.func169,Tryz.ntmps169
  go_wp2_with fail
  refine U.out.mono ?_;rintro e f ⟨A1,n1,c1,rfl,H,j⟩;obtain rfl:n1=l.length:=by have:=H.len;rwa[zaa] at this
  have u:=j.size;have X:=qwk H.reads;clear U H
  go_wp2_with (refine z0a qpt rfl (.tmp 19) (.tmp 19) rfl (W:=w) (B:=w.heap.size) l.length rfl rfl rfl rfl j u (by omega) (by simp only[maxLen];omega) ?_
               intro w2 I L Y G)
  rw[qaq] at I;have q:New f w2:=(qxg (T:=[]) L).new (by simp);go_loopw [23] (fun i wr=>∃k:Nat,k<=l.length/\i= .int .i64 (k:Int)/\wr.ownsRow f.heap.size 75 5 (.slice (some ⟨f.heap.size,0,none⟩) l.length l.length) l.length (recs zay ((l.take k).map zw9++List.replicate (l.length-k) zbb))/\New f wr) (fun i _=>l.length-(intOf i).toNat)
  case atStart=>exact⟨0,qq1 _,rfl,by simpa using I,q⟩
  case round=>
   obtain⟨k,F,rfl,o,E⟩:=hrel;clear I L Y q G;by_cases d:k<l.length
   ·obtain⟨ax,rfl,Z,qx⟩:=(qxj X.out E).num (i:=k) d
    have a1:=R.out (l.getD k 0) (by rw[qsh,qqt d];exact qrf d);have t:=zac l k 0 d;generalize l.getD k 0=x at*;have a0:IntKind.i64.wrap (x:Int)=(x:Int):=qwj _ (by omega);obtain⟨ad,y,_,-,K,-⟩:=(qwz o).cell5 (i:=k) d;injection y with y;subst y;obtain⟨cs,J⟩:=zy8 o;have f1:=J.frozen (k*5+1);have C:(⟨f.heap.size,0,none⟩:Addr).add (k*5)=⟨f.heap.size,k*5,none⟩:=by unfold Addr.add;split<;> simp_all
    rw[C] at K;dsimp only at K;have N:((l.take k).map zw9).length=k:=by rw[qtl,qqx];omega
    obtain⟨v,-⟩:=qqq o (k*5+1) (.int .i64 (x:Int));have g:=qgi (A:=(l.take k).map zw9) (B:=List.replicate (l.length-(k+1)) zbb) (z:=x);rw[N] at g;rw[show l.length-k=(l.length-(k+1))+1 by omega,qs0,g] at v;have v:(wr.setCell ⟨f.heap.size,k*5+1,none⟩ (.int .i64 (x:Int))).ownsRow f.heap.size 75 5 (.slice (some ⟨f.heap.size,0,none⟩) l.length l.length) l.length (recs zay ((l.take (k+1)).map zw9++List.replicate (l.length-(k+1)) zbb)):=by rw[t,que,qrc];exact v
    have V:=qwk v;have S:=qwk (E.setCell (p:=⟨f.heap.size,k*5+1,none⟩) (qq0 _) (.int .i64 (x:Int)));clear v g o t N J;go_wp2_with fail
    go_roundw
    case rel=>exact⟨k+1,by omega,by go_num,V.out,S.out⟩
    case measure=>simp[intOf];omega
   ·obtain rfl:k=l.length:=by omega
    rw[qsz,qup,qra,quw] at o;go_wp2_with fail
    go_ret2
    exact⟨_,_,_,rfl,zfd o u,qw5 j E⟩
end Go.Proofs.Y
namespace Go.Hm
open Go Go.RowKit
def boolN(b:Bool):Nat:=if b then 1 else 0
def z50(c:za2):List Nat:=vp c.1.length++c.1++[c.2.1.toNat,boolN c.2.2]
def zlv(l:List za2):List Nat:=l.flatMap z50
theorem qgw:zlv []=[]:=rfl
theorem qa7(l:List za2)(c:za2):zlv (l++[c])=zlv l++(vp c.1.length++c.1++[c.2.1.toNat,boolN c.2.2]):=by simp[zlv,z50]
theorem qa8(l:List za2)(c:za2):zlv (c::l)=(vp c.1.length++c.1++[c.2.1.toNat,boolN c.2.2])++zlv l:=by simp[zlv,z50]
theorem z2y(l:List za2)(h:∀x∈l,x.1.length<=100):(zlv l).length<=112*l.length:=by
 induction l with
 |nil=>simp[zlv]
 |cons c l b=>
  have d:=b fun x a=>h x (by simp[a])
  have e:=h c (by simp);have f:=zae (n:=c.1.length) (by omega);rw[qa8];simp only[qrp,qr1,qub] at*;omega
def putC(b:List Nat)(l:List za2):List Nat:=if zcz l=0 then b++vp l.length++zlv l else b
end Go.Hm
namespace Go.Proofs.Y
open Go.RowKit Go.Hm
theorem qgx(b:Bool)(w:World):Calls Tryz.prog 112 #[.bool b] w (zd5 (.int .u8 ((boolN b:Nat):Int)) w):=by
 cases b;all_goals
  go_enter Tryz.func112,Tryz.ntmps112
  go_wp2
  go_ret
  exact⟨rfl,rfl⟩
theorem qgy{w:World}{A A2:Option Addr}{n c o c2:Nat}{b:List Nat}{L:List za2}(h:Reads w w.heap.size 1 A n (zar .u8 b))(hn:n<=140737488300000)(h2:Reads w w.heap.size 3 A2 o (recs zle L))(hL:∀x∈L,(∀z∈x.1,z<256)/\x.1.length<=140737488351232)(hc:o<=c2)(a7:o<=4611686018427387903):
 Calls Tryz.prog 88 #[.slice A n c,.slice A2 o c2] w (zcx (putC b L) w):=by
 have u:=qwk (zpi (c:=c2) h2 hL hc a7);obtain rfl:=h2.lenC;by_cases r:zcz L=0
 ·rw[r] at u
  have HO:=qwk (show putC b L=b++vp L.length++zlv L by rw[putC,if_pos r]);obtain⟨m1,m2,_⟩:=(zdv L).1 r;generalize putC b L=O at*;have M2:=qwk m2;have a0:=qwk hL;have vl:=zae (n:=L.length) (by omega);have VL:=qwk vl;have J:=h.len;have LN:=qwk J;clear r m2 hL J;go_enter Tryz.func88,Tryz.ntmps88
  go_wp2_with fail
  refine u.out.mono ?_;rintro e w1 ⟨rfl,p⟩;have Z:=qwk (zdc A n c b L.length w1 (qxj h p) (by omega) (by omega));go_wp2_with fail
  refine Z.out.mono ?_;rintro e w2 ⟨A3,n3,c3,rfl,k3,b2⟩;have a3:=qw5 p b2;have Z1:=p.size;clear u Z p vl;go_wp2
  go_loopw [5,20] (fun v i wr=>∃(k:Nat) (A:Option Addr) (m c5:Nat),i= .int .i64 (k:Int)/\k<=L.length/\v= .slice A m c5/\Own wr w.heap.size 5 (.slice A m c5) (zar .u8 (b++vp L.length++zlv (L.take k)))/\New w wr) (fun _ i _=>L.length-(intOf i).toNat)
  case atStart=>exact⟨0,_,_,_,rfl,by omega,rfl,by rw[qrq,qgw,qra];exact k3.base_le Z1,a3⟩
  case round=>
   obtain⟨k,A5,P,c5,rfl,r,rfl,R,H⟩:=hrel;have z5:=H.size;by_cases j:k<L.length
   ·obtain⟨ad,rfl,b4,d0,d1,d2⟩:=(qxj h2 H).colT j
    have M:(L.getD k ([],0,false))∈L:=by rw[qsh,qqt j];exact qrf j
    obtain⟨x1,x2,x3,x4⟩:=M2.out _ M;have y1:=(a0.out _ M).1;have T:=zac L k ([],0,false) j;have q5:P<=n+7200:=by have l:=R.len;have l2:=z2y (L.take k) (fun x M=>(M2.out x (qro M)).2.1);rw[zaa,qrp,qrp] at l;rw[qqx] at l2;have:=VL.out;have:=LN.out;omega
    have HT:=qwk (show b++vp L.length++zlv (L.take (k+1))=b++vp L.length++zlv (L.take k)++vp (L.getD k ([],0,false)).1.length++(L.getD k ([],0,false)).1++[(L.getD k ([],0,false)).2.1.toNat,boolN (L.getD k ([],0,false)).2.2] by rw[T,qa7];simp);clear T M;generalize(L.getD k ([],0,false)).1=g at*;generalize(L.getD k ([],0,false)).2.1=d at*;generalize(L.getD k ([],0,false)).2.2=o at*;obtain⟨d,rfl⟩:=qsu x3;rw[qrn] at HT;have zs:=zbq g;have vs:=zae (n:=g.length) (by omega);have VS:=qwk vs;have Y1:=qwk y1;have b8:(k:Int)<(L.length:Int):=by omega
    obtain⟨C,a⟩:∃W,W=wr.alloc (.cells #[.string (zaf g),.int .i64 (d:Int),.bool o] 71):=⟨_,rfl⟩;have a5:New w C:=by rw[a];exact Below.alloc H H.size _
    have Y:Blk C wr.heap.size 71 #[.string (zaf g),.int .i64 (d:Int),.bool o]:=by rw[a];exact qw1 _ _ _
    have S:Own C w.heap.size 5 (.slice A5 P c5) (zar .u8 (b++vp L.length++zlv (L.take k))):=by rw[a];exact R.alloc _
    have b6:wr.heap.size<C.heap.size:=Y.lt;obtain⟨U,V,X⟩:=zan Y;have P6:=qwk (zdc none 0 0 [] g.length C qwy (by omega) (by omega));rw[a] at U V X;rw[a] at P6;clear y1 R;have HY:=qwk Y;have a1:=qwk a;clear Y vs a;go_wp2_with fail
    refine P6.out.mono ?_;rintro e w7 ⟨A7,n7,c7,rfl,N,I⟩;rw[<-a1.out] at I N;rw[qrr] at N;have D:=qw5 a5 I;have o7:=S.later I;have Y7:=HY.out.below I HY.out.lt;have q7:n7<=10:=by have:=N.len;rw[zaa] at this;have:=VS.out;omega
    have r7:=N.reads;have z7:=D.size;clear I N P6 U V X S;go_wp2_with (first
     |(refine zaq elB rfl (.tmp 24) (.tmp 29) rfl (W:=w) (B:=w.heap.size) o7 r7 rfl rfl D (qq0 _) z7 (by omega) (by simp only[maxLen];omega) ?_
       intro A8 c8 w8 _ _ o8 g8 E _;have Y8:=Y7.push o7 g8 (by decide);obtain⟨U,V,X⟩:=zan Y8;have a2:=qwk Y8;have z8:=E.size;clear Y8)
     |(refine zer elB qih rfl (.tmp 31) (.tmp 33) rfl (W:=w) (B:=w.heap.size) o8 Y1.out rfl rfl E (qq0 _) z8 (by omega) ?_
       intro A9 c9 s _ _ o9 g9 F;have t:=qwk (a2.out.push o8 g9 (by decide));have z9:=F.size;clear U V X))
    have HC:=qwk (fun(W:World) (hW:s.grownBy W (Value.ownBlock (.slice A9 (P+n7+g.length) c9)))=>zan (t.out.grown hW (fun e=>o9.blk_ne t.out (by decide) e.symm)));refine zav (fun x y=>x.grownBy y (Value.ownBlock (.slice A9 (P+n7+g.length) c9))) [(true,0),(true,1),(true,2),(true,3),(true,4),(true,5),(false,6),(false,7),(false,8),(true,9)]
     (fun x=>qql x _) qqm (by kernel_rfl) (by kernel_rfl) (by kernel_rfl) (by kernel_rfl) ?_
    have e8:IntKind.u8.wrap (d:Int)=(d:Int):=by rw[qwl];omega
    have MK:=qwk (fun W=>qgx o W);generalize b9:boolN o=mk at*;have f:Own (s.alloc (.cells #[.int .u8 (d:Int),.int .u8 (mk:Int)] 5)).drew w.heap.size 5 (.slice A9 (P+n7+g.length) c9) (zar .u8 (b++vp L.length++zlv (L.take k)++vp g.length++g)):=o9.alloc _;have a8:Reads (s.alloc (.cells #[.int .u8 (d:Int),.int .u8 (mk:Int)] 5)).drew (s.alloc (.cells #[.int .u8 (d:Int),.int .u8 (mk:Int)] 5)).drew.heap.size 1 (some ⟨s.heap.size,0,none⟩) 2 (zar .u8 [d,mk]):=qxi s 5 #[.int .u8 (d:Int),.int .u8 (mk:Int)] 2 (zar .u8 [d,mk]) rfl rfl;repeat(first
     |(refine za7 rfl rfl (fun K q=>?_);go_simp
       (with_reducible refine(MK.out _).mono ?_)
       rintro e a9 ⟨rfl,rfl⟩;refine q _ _ (qql _ _) ?_;clear q)
     |(refine zas rfl rfl (v:=?_) (fun W hW=>?_) ?_;rotate_left;(obtain⟨U,V,X⟩:=HC.out W (qqm z4g hW);go_simp<;> with_reducible rfl);simp only[Act.put,qta,qs1,qtb]))
    refine za7 rfl rfl (fun K q=>?_);go_simp
    refine q _ _ (qwf s.drew _ _) ?_;clear q;refine za7 rfl rfl (fun K q=>?_);have G:Below w.heap.size w (s.alloc (.cells #[.int .u8 (d:Int),.int .u8 (mk:Int)] 5)).drew:=(F.alloc z9 _).drew;refine zly elB (.tmp 35) (.tmp 42) rfl (W:=w) (B:=w.heap.size) f a8 (by omega) rfl rfl G (qq0 _) G.size (zcr _ _) (by rw[<-f.len];omega) (by rw[<-f.len];simp only[maxLen];omega) ?_;intro b0 b3 a9 _ _ Q a6 a4;refine q _ _ a6 ?_;clear q;rw[<-zd0,<-f.len] at Q;rw[<-f.len];refine zas rfl rfl (v:=?_) (fun W hW=>?_) ?_;rotate_left
    ·go_simp<;> with_reducible rfl
    simp only[Act.put,qta,qs1,qtb];refine zdr ?_;go_wp2
    go_roundw
    case rel=>exact⟨k+1,_,_,_,by go_num,by omega,rfl,by rw[HT.out];exact Q,a4⟩
    case measure=>simp[intOf];omega
   ·obtain rfl:k=L.length:=by omega
    rw[quw] at R;go_wp2
    go_ret
    exact⟨_,_,_,rfl,by rw[HO.out];exact R,H⟩
 ·have HO:=qwk (show putC b L=b by rw[putC,if_neg r])
  generalize putC b L=O at*;generalize zcz L=ck at*;have e1:(ck != 0)=true:=by simpa using r
  clear r;go_enter Tryz.func88,Tryz.ntmps88
  go_wp2_with fail
  refine u.out.mono ?_;rintro e w1 ⟨rfl,p⟩;have Z:=qwk (zht (c:=c) (qxj h p) (by omega));clear u;go_wp2_with fail
  refine Z.out.mono ?_;rintro e w2 ⟨A3,n3,c3,rfl,k3,b2⟩;have Z1:=p.size;go_wp2
  go_ret
  exact⟨_,_,_,rfl,by rw[HO.out];exact k3.base_le Z1,qw5 p b2⟩
end Go.Proofs.Y
namespace Go.Hm
open Go Go.RowKit Go.Maps
section
variable{P:Program}{k e:TypeId}{F:Nat->Value}
open Classical in
noncomputable def qnm(F:Nat->Value)(v:Value):Option (DWn × List MemPlace):=if h:∃m,v=F m then some (zzt (Classical.choose h),[]) else none
theorem qlk(F:Nat->Value)(m:Nat):∃q,qnm F (F m)=some (zzt q,[])/\F q=F m:=by have h:∃q,F m=F q:=⟨m,rfl⟩;refine⟨Classical.choose h,?_,(Classical.choose_spec h).symm⟩;unfold qnm;rw[dif_pos h]
theorem qg6{v:Value}{z:DWn × List MemPlace}(h:qnm F v=some z):∃q,v=F q/\z=(zzt q,[]):=by
 unfold qnm at h;split at h
 ·rename_i a
  injection h with h;exact⟨_,Classical.choose_spec a,h.symm⟩
 ·cases h
theorem qg7{p q:Nat}(h:zzt p=zzt q):p=q:=by simp only[zzt,qqo,qqp,true_and] at h;omega
def MapF_mapf(P:Program)(k:TypeId)(F:Nat->Value)(w:World)(b n:Nat)(f:Int->Option Nat):Prop:=
 ∃D:DWn,w.ownsMap P k (qnm F) b n D/\IsMap D/\ ∀x m kl,f x=some m->keyOf P k (.int .i64 x)=some kl-> ∃q,F q=F m/\ ∀zd,D.atKey kl zd=zzt q
theorem MapF_mapf.made(w:World):MapF_mapf P k F (w.alloc (.map #[] 0)) w.heap.size 0 fun _=>none:=
 ⟨.map [],qwt _ _ _ _,isMap_empty,fun _ _ _ h _=>by cases h⟩
variable{w:World}{b n:Nat}{f:Int->Option Nat}
theorem MapF_mapf.kept{w':World}{row:Option Nat}(h:MapF_mapf P k F w b n f)(i:w.grownBy w' row)(a:some b≠row):MapF_mapf P k F w' b n f:=by obtain⟨D,c,d,g⟩:=h;exact⟨D,c.kept i a,d,g⟩
theorem MapF_mapf.lt(h:MapF_mapf P k F w b n f):b<w.heap.size:=by obtain⟨D,a,_⟩:=h;exact a.lt
theorem MapF_mapf.look{t:TypeId}(h:MapF_mapf P k F w b n f)(K:Keyed P k)(B:P.underlying t=some (.map k e)){z:Value}(C:(zeroValue e).run P w= .ok z w){x:Int}{m:Nat}(v:f x=some m)(a:∃kl,keyOf P k (.int .i64 x)=some kl):
 (Instr.lookup t (.map (some b)) (.int .i64 x) false).run P w= .ok (F m) w:=by
 obtain⟨D,⟨G,g,u,r,_,rfl⟩,H,s⟩:=h;obtain⟨kl,a⟩:=a;obtain⟨q,A,l⟩:=s x m kl v a;rcases fit_look false K B C u r a with⟨c,_,d⟩|⟨E,y,_,_,c,j,d,_⟩
 ·have i:=(d .nil).symm.trans (l .nil)
  cases i
 ·obtain⟨p,o,rfl⟩:=qg6 j
  have i:zzt p=zzt q:=(d .nil).symm.trans (l .nil);rw[qg7 i] at o;rw[o,A] at c;exact c
theorem MapF_mapf.put{t:TypeId}(h:MapF_mapf P k F w b n f)(K:Keyed P k)(C:P.underlying t=some (.map k e))(z:n<maxLen){x:Int}(a:∃kl,keyOf P k (.int .i64 x)=some kl)(m:Nat):
 ∃w',(Instr.mapUpdate t (.map (some b)) (.int .i64 x) (F m)).run P w= .ok () w'/\MapF_mapf P k F w' b (n+1) (fun y=>if y=x then some m else f y)/\w.grownBy w' (some b):=by
 obtain⟨D,r,l,s⟩:=h;obtain⟨kl,a⟩:=a;obtain⟨q,B,j⟩:=qlk F m;obtain⟨w',d,A,u⟩:=r.update K C z a B;refine⟨w',d,⟨_,A,l.put _ _,fun y G E c g=>?_⟩,u⟩;dsimp only at c;by_cases i:y=x
 ·subst i
  rw[if_pos rfl] at c;injection c with c;subst c;rw[g] at a;obtain rfl:=qqf a;exact⟨q,j,fun I=>atKey_put_same l (K.key g) _ _⟩
 ·rw[if_neg i] at c
  obtain⟨H,o,p⟩:=s y G E c g;refine⟨H,o,fun I=>?_⟩;rw[atKey_put_other,p];intro v;subst v;have:=K.inj g a;injection this with _ this;exact i this
theorem zn0{i:Array Oper}{rest:List Oper}{o:Oper}{a:Act}{Q:Exit->Act->World->Prop}(r:o.guard=none)(m x:Operand)(t:TypeId)(l:o.op=Op.lookup t m x false)
 (K:Keyed P k)(s:P.underlying t=some (.map k e)){z:Value}(v:(zeroValue e).run P w= .ok z w)(d:MapF_mapf P k F w b n f){y:Int}{q:Nat}(p:f y=some q)(c:∃kl,keyOf P k (.int .i64 y)=some kl)(hm:a.eval m= .map (some b))(u:a.eval x= .int .i64 y)
 (h:wpList P i Q rest (a.put o.dst (F q)) w):wpList P i Q (o::rest) a w:=by
 refine wpList_plain r fun A j=>?_
 have g:=d.look K s v p c;unfold Oper.wp;simp[execOp,l,hm,u,g,Result.andThen];exact j _ _ h
theorem zgz{i:Array Oper}{rest:List Oper}{o:Oper}{a:Act}{Q:Exit->Act->World->Prop}(p:o.guard=none)(m x v:Operand)(t:TypeId)(l:o.op=Op.insert t m x v)
 (K:Keyed P k)(s:P.underlying t=some (.map k e))(d:MapF_mapf P k F w b n f)(r:n<maxLen){y:Int}(c:∃kl,keyOf P k (.int .i64 y)=some kl)(q:Nat)
 (hm:a.eval m= .map (some b))(A:a.eval x= .int .i64 y)(u:a.eval v=F q)
 (h:∀w',MapF_mapf P k F w' b (n+1) (fun z=>if z=y then some q else f z)->w.grownBy w' (some b)->wpList P i Q rest (a.put o.dst undef) w'):wpList P i Q (o::rest) a w:=by
 refine wpList_plain p fun D j=>?_
 obtain⟨w',g,B,C⟩:=d.put K s r c q;unfold Oper.wp;simp[execOp,l,hm,A,u,g,Result.andThen];exact j _ _ (h w' B C)
end
open Go Go.RowKit
theorem z6s(a b:Value)(n:Nat):(madeCells #[a,b] (n*2)).toList=(List.replicate n [a,b]).flatten:=by
 induction n with
 |zero=>simp[madeCells]
 |succ n d=>
  rw[qt4,qul,<-d];have e:∀m,m%2=0->(madeCells #[a,b] (m+2)).toList=(madeCells #[a,b] m).toList++[a,b]:=by intro m c;simp only[madeCells,qum,qun,quo,que,qrj,qrk,qrc,qr0,qrr,qrt,qr1,qub];rw[c,show(m+1)%2=1 by omega];rfl
  rw[qsv,e (n*2) (by omega)];simp
theorem z6t(n:Nat):(List.replicate n [Value.int .i64 0,.int .i64 0]).flatten=zdy (List.replicate n (0,0)):=by
 induction n with
 |zero=>rfl
 |succ n b=>
  rw[qs0,qvg,b,qs0];rfl
theorem zx3(l m:List (Int × Int)):zdy (l++m)=zdy l++zdy m:=by simp[zdy]
section
variable{P:Program}{ops:Array Oper}{rest:List Oper}{o:Oper}{a:Act}{Q:Exit->Act->World->Prop}
theorem z0u{w:World}{t e:TypeId}{x y:Value}{b:Nat}(E:ElT P t e (.agg #[x,y]) 2 b)(j:o.guard=none)(q p:Operand)(F:o.op=Op.makeSlice t q p)
 {W:World}{B:Nat}{kl kc:IntKind}{L C:Int}(n:Nat)(D:a.eval q= .int kl L)(z:a.eval p= .int kc C)(u:L=(n:Int))(r:C=(n:Int))(v:Below B W w)(d:B<=w.heap.size)
 (G:n*b<=140737488355328)(hm:n<=maxLen)
 (h:∀w',w'.ownsRow w.heap.size e 2 (.slice (some ⟨w.heap.size,0,none⟩) n n) n (List.replicate n [x,y]).flatten->w.grownBy w' none->Below B W w'->w'.heap.size=w.heap.size+1->wpList P ops Q rest (a.put o.dst (.slice (some ⟨w.heap.size,0,none⟩) n n)) w'):
 wpList P ops Q (o::rest) a w:=by
 obtain⟨i,A,m,l,f⟩:=info_parts E.hi;subst u r;have k:(n:Int)<=9223372036854775807:=by have h:=hm;simp only[maxLen] at h;omega
 have g:(i.bytes:Int)*(n:Int)<=281474976710656:=by
  have h:((i.bytes*n:Nat):Int)<=281474976710656:=by rw[f,qrl];omega
  rwa[qrm] at h
 have c:=run_make (P:=P) w t e i (.agg #[x,y]) E.ht A m kl kc (n:Int) (n:Int) (by omega) (by omega) g k;rw[qrn,l] at c;refine wpList_plain j fun K s=>?_
 unfold Oper.wp;simp[execOp,F,D,z,c,Result.andThen];refine s _ _ (h _ ?_ (qwf _ _ _) (v.alloc d _) (by simp));refine⟨by simp,.inr ⟨_,n,_,rfl,qq0 _,heap_alloc_new w _,qq0 _,hm,by simp[size_madeCells],?_⟩⟩;rw[qru (by simp[size_madeCells])];exact z6s x y n
theorem zx4{w:World}(p:o.guard=none)(ty:TypeId)(x y:Operand)(D:o.op= .store ty x y)
 {base:Nat}{e:TypeId}{g n m:Nat}{A B:List (Int × Int)}{c new:Int × Int}(b:w.ownsRow base e 2 (.slice (some ⟨g,0,none⟩) n n) n (zdy (A++c::B)))(hm:A.length=m)(q:m<n)
 (F:a.eval x= .pointer (some ⟨g,m*2,none⟩))(G:a.eval y= .agg #[.int .i64 new.1,.int .i64 new.2])(hi:(P.info? ty).map (·.size)=some 2)
 (h:∀W,W.ownsRow base e 2 (.slice (some ⟨g,0,none⟩) n n) n (zdy (A++new::B))->w.grownBy W (some g)->wpList P ops Q rest (a.put o.dst undef) W):wpList P ops Q (o::rest) a w:=by
 obtain⟨J,z⟩:=zy8 b;obtain⟨I,k,-,d,f⟩:=(qwz b).pair2 (i:=m) q;injection k with k;subst k;have l:(⟨g,0,none⟩:Addr).add (m*2)=⟨g,m*2,none⟩:=by unfold Addr.add;split<;> simp_all
 rw[l] at d f;dsimp only at d f;have E:w.there g (m*2) (#[Value.int .i64 new.1,.int .i64 new.2]:Array Value).size:=by
  intro j r;have r:j<2:=r;refine⟨?_,z.frozen _⟩;have:j=0\/j=1:=by omega
  rcases this with rfl|rfl
  ·rw[quc,d];rfl
  ·rw[f];rfl
 refine wpList_store_mid p ty x y D g (m*2) #[.int .i64 new.1,.int .i64 new.2] F G E hi (by simp[Value.oneCell']) ?_;obtain⟨H,u⟩:=qqq b (m*2) (.int .i64 new.1);obtain⟨s,v⟩:=qqq H (m*2+1) (.int .i64 new.2);have C:(zdy A).length=m*2:=by rw[zg6,hm]
 have t:((zdy (A++c::B)).set (m*2) (.int .i64 new.1)).set (m*2+1) (.int .i64 new.2)=zdy (A++new::B):=by rw[zx3,zx3,qsy _ _ (by omega),qsy _ _ (by omega),C,qsz,show m*2+1-m*2=1 by omega];rfl
 rw[t] at s;exact h _ s (u.trans v)
end
end Go.Hm
