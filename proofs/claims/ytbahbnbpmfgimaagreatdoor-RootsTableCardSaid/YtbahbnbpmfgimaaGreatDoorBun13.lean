import Derived.Test.YtbahbnbpmfgimaaGreatDoorBun10
set_option maxHeartbeats 1000000
set_option maxRecDepth 100000
namespace Go.Hm
def wid(l:List Nat):Nat:=l.foldl (fun a x=>max a (Lib.bitLen x)) 0
theorem zj4(n:Nat):∀k,k<=64->n<18446744073709551616->(Lib.bitLen n<=k↔n<2^k):=by
 intro k c b;refine⟨fun h=>?_,fun h=>Lib.bitLen_le n k c h⟩;induction k generalizing n with
 |zero=>
  by_cases a:n=0
  ·omega
  ·have:=Lib.bitLen_half n a b
   omega
 |succ k d=>
  by_cases a:n=0
  ·subst a;exact qsn _
  ·have e:=Lib.bitLen_half n a b
   have f:=d (n/2) (by omega) (by omega) (by omega);rw[qrx];omega
theorem zul(n:Nat)(a:n<18446744073709551616):Lib.bitLen n<=64:=Lib.bitLen_le n 64 (by omega) a
theorem z83(a b:Nat)(f:a<18446744073709551616)(g:b<18446744073709551616):Lib.bitLen (a ||| b)=max (Lib.bitLen a) (Lib.bitLen b):=by
 have d:a ||| b<18446744073709551616:=quu (n:=64) f g;have j:=zul a f;have l:=zul b g;have c:=zul _ d;have e:∀k,k<=64->(Lib.bitLen (a ||| b)<=k↔max (Lib.bitLen a) (Lib.bitLen b)<=k):=by intro k i;rw[zj4 _ k i d,Nat.max_le,zj4 a k i f,zj4 b k i g];exact⟨fun h=>⟨qso Nat.left_le_or h,qso Nat.right_le_or h⟩,fun h=>quu h.1 h.2⟩
 have m:=(e _ c).1 (qq0 _);have o:=(e (max (Lib.bitLen a) (Lib.bitLen b)) (by omega)).2 (qq0 _);omega
theorem qe5(l:List Nat)(x:Nat):wid (l++[x])=max (wid l) (Lib.bitLen x):=by simp[wid]
def ors(l:List Nat):Nat:=l.foldl (· ||| ·) 0
theorem z1x(l:List Nat)(x:Nat):ors (l++[x])=ors l ||| x:=by simp[ors]
theorem qe6(k:Nat)(l:List Nat)(e:k<=l.length)(c:∀x∈l,x<=18446744073709551615):ors (l.take k)<18446744073709551616/\Lib.bitLen (ors (l.take k))=wid (l.take k):=by
 induction k with
 |zero=>simp[ors,wid];decide
 |succ k d=>
  obtain⟨a,b⟩:=d (by omega);have f:l.getD k 0<=18446744073709551615:=by rw[qsh,qqt (by omega)];exact c _ (qrf (by omega))
  rw[zac l k 0 (by omega),z1x,qe5];exact⟨quu (n:=64) a (by omega),by rw[z83 _ _ a (by omega),b]⟩
theorem zhj(l:List Nat)(k:Nat)(b:k<=64)(c:∀x∈l,x<=18446744073709551615):wid l<=k↔ ∀x∈l,x<2^k:=by
 have:∀(l:List Nat) a,(∀x∈l,x<=18446744073709551615)->(l.foldl (fun a x=>max a (Lib.bitLen x)) a<=k↔a<=k/\ ∀x∈l,x<2^k):=by
  intro l;induction l with
  |nil=>intro a _;simp
  |cons y l e=>
   intro a h;rw[quv,e _ (fun x d=>h x (by simp[d])),Nat.max_le,zj4 y k b (by have:=h y (by simp);omega)];simp[and_assoc]
 rw[wid,this l 0 c];simp
theorem zk2(l:List Nat)(a:∀x∈l,x<=18446744073709551615):wid l<=64:=(zhj l 64 (by omega) a).2 fun x b=>by have:=a x b;omega
end Go.Hm
namespace Go.Proofs.Y
open Go.RowKit Go.Hm
def zzj(v:Int)(w:World)(e:Ending)(w':World):Prop:=e= .returned (.int .i64 v)/\w=w'
theorem zl8{w:World}{A:Option Addr}{n c:Nat}{L:List Nat}(h:Reads w w.heap.size 1 A n (zar .u64 L))(l:∀x∈L,x<=18446744073709551615)(B:n<=9223372036854775807):
 Calls Tryz.prog 153 #[.slice A n c] w (zzj (wid L) w):=by
 obtain rfl:=h.len;go_enter Tryz.func153,Tryz.ntmps153
 go_wp2
 go_loop [3,8] (fun v i=>∃k:Nat,k<=L.length/\i= .int .i64 (k:Int)/\v= .int .u64 (ors (L.take k):Int)) (fun _ i=>L.length-(intOf i).toNat)
 case atStart=>exact⟨0,by omega,rfl,by simp[ors]⟩
 case round=>
  obtain⟨k,s,rfl,rfl⟩:=hrel;have b:=qe6 k L s l;by_cases a:k<L.length
  ·obtain⟨u,rfl,z,j⟩:=h.num a
   have p:=qwk (zac L k 0 a);have t:L.getD k 0<=18446744073709551615:=by rw[qsh,qqt a];exact l _ (qrf a)
   generalize L.getD k 0=y at*;obtain⟨r,_⟩:=b;generalize m:ors (L.take k)=o at*;have b:=qwk m;clear m;have d:=u64_or_nat o y r (by omega);have g:=qwk d;clear d;go_wp2
   go_round
   case rel=>exact⟨k+1,by omega,by go_num,by rw[p.out,z1x,b.out,g.out]⟩
   case measure=>simp[intOf];omega
  ·obtain rfl:k=L.length:=by omega
   rw[quw] at*;have q:=qwk (bits_Len64 (ors L:Int) w (by omega) (by omega));have f:=qwk b.2;clear b;go_wp2_with (go_at_call 120;refine q.out.mono ?_;rintro e C ⟨rfl,rfl⟩)
   go_ret
   exact⟨by rw[<-f.out];rfl,rfl⟩
def nby(w n:Int):Int:=if w<0\/64<w\/n<0\/65536<n then-1 else(w*n+7)/8
theorem zum(x n:Nat)(b:x<=64)(a:n<=65536):nby (x:Int) (n:Int)=(((x*n+7)/8:Nat):Int):=by unfold nby;rw[if_neg (by omega),<-qrm];omega
theorem zqd(x n:Int)(w:World)(h: -9223372036854775808<=x)(j:x<=9223372036854775807)(g: -9223372036854775808<=n)(i:n<=9223372036854775807):Calls Tryz.prog 152 #[.int .i64 x,.int .i64 n] w (zzj (nby x n) w):=by
 by_cases f:0<=x/\x<=64/\0<=n/\n<=65536
 ·obtain⟨b,c,a,d⟩:=f
  have k:0<=x*n:=qux b a;have l:x*n<=64*65536:=Int.mul_le_mul c d a (by omega);have e:nby x n=(x*n+7)/8:=by unfold nby;rw[if_neg (by omega)]
  rw[e];have m:wrap64 (x*n)=x*n:=by unfold wrap64;omega
  have o:wrap64 (x*n+7)=x*n+7:=by unfold wrap64;omega
  have p:(x*n+7).tdiv 8=(x*n+7)/8:=qti (by omega);have q:wrap64 ((x*n+7)/8)=(x*n+7)/8:=by unfold wrap64;omega
  clear e;go_enter Tryz.func152,Tryz.ntmps152
  go_wp2
  all_goals first|(exfalso;omega)|go_ret
  exact⟨rfl,rfl⟩
 ·have e:nby x n= -1:=by unfold nby;rw[if_pos (by omega)]
  rw[e];clear e;go_enter Tryz.func152,Tryz.ntmps152
  go_wp2
  all_goals first|(exfalso;omega)|go_ret
  all_goals exact⟨rfl,rfl⟩
theorem zss(x n:Nat)(w:World)(b:x<=64)(a:n<=65536):Calls Tryz.prog 152 #[.int .i64 (x:Int),.int .i64 (n:Int)] w (zzj ((x*n+7)/8:Nat) w):=by have:=zqd x n w (by omega) (by omega) (by omega) (by omega);rwa[zum x n b a] at this
def zqe(L:List Nat)(x:Int):Option (List Nat):=
 if 0<=x/\x<=64/\L.length<=65536/\(wid L:Int)<=x then some (low (pk x.toNat L) ((x.toNat*L.length+7)/8)) else none
def zch(b:List Nat)(x n:Int):Option (List Nat):=
 if 0<=x/\x<=64/\0<=n/\n<=65536/\b.length=(x.toNat*n.toNat+7)/8/\num b<2^(x.toNat*n.toNat) then some (zr3 x.toNat n.toNat (num b)) else none
theorem z84{w:World}{A:Option Addr}{n c:Nat}{L:List Nat}(x:Nat)(h:Reads w w.heap.size 1 A n (zar .u64 L))(G:∀x∈L,x<=18446744073709551615)(hn:n<=65536)(H:x<=64)(hw:wid L<=x):
 Calls Tryz.prog 142 #[.slice A n c,.int .i64 (x:Int)] w (OptB (some (low (pk x L) ((x*n+7)/8))) w):=by
 obtain rfl:=h.len;obtain⟨s,hs⟩:∃s,s=(x*L.length+7)/8:=⟨_,rfl⟩;have hp:x*L.length<=64*65536:=quy H hn;have V:s<=524288:=by omega
 have F:x*L.length<=8*s:=by omega
 have Y:=qwk (zss x L.length w H hn);rw[<-hs] at Y⊢;have W1:=qwk (zl8 (c:=c) h G (by omega));have HS:=qwk F;clear hs F hp;go_enter Tryz.func142,Tryz.ntmps142
 go_wp2_with (first
  |(go_at_call 152;refine Y.out.mono ?_;rintro e w1 ⟨rfl,rfl⟩)
  |(go_at_call 153;refine W1.out.mono ?_;rintro e w1 ⟨rfl,rfl⟩)
  |(refine zcf elB rfl (.tmp 24) (.tmp 24) rfl (W:=w) (B:=w.heap.size) s s rfl rfl rfl rfl (by omega) (qwd _ _) (qq0 _) rfl (by omega) (by simp only[maxLen];omega) ?_
    intro w1 p a1 N V))
 go_loopw [8,28] (fun a i wr=>∃k m:Nat,k<=L.length/\m=x*k/\i= .int .i64 (k:Int)/\a= .int .i64 (m:Int)/\Own wr w.heap.size 5 (.slice (some ⟨w.heap.size,0,none⟩) s s) (zar .u8 (low (pk x (L.take k)) s))/\Below w.heap.size w wr) (fun _ i _=>L.length-(intOf i).toNat)
 case atStart=>exact⟨0,0,by omega,rfl,rfl,rfl,by simpa[pk,qef,zb5] using p,N⟩
 case round=>
  obtain⟨k,m,hk,S,rfl,rfl,b,l⟩:=hrel;by_cases d:k<L.length
  ·obtain⟨ad,rfl,a0,Q⟩:=(h.below l).num d
   have hy:L.getD k 0<2^x:=(zhj L x H G).1 hw _ (by rw[qsh,qqt d];exact qrf d);have R:L.getD k 0<=18446744073709551615:=by rw[qsh,qqt d];exact G _ (qrf d)
   have HT:=qwk (zac L k 0 d);have M:=qmr x (L.take k) (fun z I=>(zhj L x H G).1 hw z (qro I));rw[qqx,qqy (by omega),<-S] at M;have a4:m+x<=8*s:=by have h1:x*(k+1)<=x*L.length:=qty _ d;rw[qtx] at h1;have:=HS.out;omega
   generalize L.getD k 0=y at*;generalize E:pk x (L.take k)=X at*;have J:=qwk E;clear E;have Z:=qwk S;have HX:=qwk M;have HY:=qwk hy;clear S M hy;go_wp2
   obtain⟨wo,rfl⟩:∃wo:World,wo=wr:=⟨_,rfl⟩;go_loopw [8,33] (fun a i wr=>∃j g:Nat,j<=x/\g=m+j/\i= .int .i64 (j:Int)/\a= .int .i64 (g:Int)/\Own wr w.heap.size 5 (.slice (some ⟨w.heap.size,0,none⟩) s s) (zar .u8 (low (X+y%2^j*2^m) s))/\Below w.heap.size w wr) (fun _ i _=>x-(intOf i).toNat)
   case atStart=>exact⟨0,m,by omega,rfl,rfl,rfl,by simpa[Nat.mod_one] using b,l⟩
   case round=>
    obtain⟨j,g,hj,o,rfl,rfl,b,l⟩:=hrel;by_cases a3:j<x
    ·have T:g<8*s:=by omega
     obtain⟨q,r,U,q1,q2,q3,d1,d2⟩:=zt5 g (by omega);obtain⟨D,a2,hc,hf,f⟩:=b.num0 (i:=q) (by omega);have u:=qwk o;have v:=qwk f;clear o f;generalize C:(low (X+y%2^j*2^m) s).getD q 0=bb at*;have K:=qwk C;clear C;obtain⟨t,ht,t1,t2,t3⟩:=qou y j R;have a5:(q:Int)<(s:Int):=by omega
     have a6:(0:Int)<=(q:Int):=by omega
     have P:=z8a s y j g q r t HX.out u.out T U.out ht.out;rw[K.out] at P;obtain⟨z,I⟩:∃z,z=bb+t*2^r:=⟨_,rfl⟩;have O:=qjo bb r t P.1 t1 q2;rw[<-I] at O P;have J:=qwk P.2;clear P I;go_wp2
     go_still_tail 15,(by kernel_rfl)
     go_wp2
     go_roundw
     case rel=>exact⟨j+1,g+1,by omega,by have:=u.out;omega,by go_num,by go_num,by rw[<-J.out];exact v.out z,by first|exact(l.drew).setCell D _|exact l.setCell D _⟩
     case measure=>simp[intOf];omega
    ·obtain rfl:j=x:=by omega
     go_wp2
     go_roundw
     case rel=>exact⟨k+1,g,by omega,by rw[o,Z.out,qtx],by go_num,rfl,by rw[HT.out,z78,qqx,qqy (by omega),<-Z.out,J.out];rw[qr8 HY.out,qrl] at b;exact b,l⟩
     case measure=>simp[intOf];omega
  ·obtain rfl:k=L.length:=by omega
   rw[quw] at b;go_wp2
   go_ret2
   exact⟨_,_,_,rfl,b,l⟩
theorem qe7{w:World}{A:Option Addr}{n c:Nat}{L:List Nat}(x:Int)(h:Reads w w.heap.size 1 A n (zar .u64 L))(k:∀x∈L,x<=18446744073709551615)(m:n<=9223372036854775807)(d: -9223372036854775808<=x)(l:x<=9223372036854775807)
 (f: ¬(0<=x/\x<=64/\L.length<=65536/\(wid L:Int)<=x)):
 Calls Tryz.prog 142 #[.slice A n c,.int .i64 x] w (OptB none w):=by
 obtain rfl:=h.len;have a:=qwk (zqd x L.length w d l (by omega) (by omega));have j:=qwk (zl8 (c:=c) h k (by omega));by_cases g:0<=x/\x<=64/\L.length<=65536
 ·have o:x<(wid L:Int):=by omega
  have b:0<=nby x L.length:=by unfold nby;rw[if_neg (by omega)];have:0<=x*(L.length:Int):=qux (by omega) (by omega);omega
  clear f g;generalize nby x L.length=B at*;generalize wid L=W at*;go_enter Tryz.func142,Tryz.ntmps142
  go_wp2_with (first
   |(go_at_call 152;refine a.out.mono ?_;rintro e i ⟨rfl,rfl⟩)
   |(go_at_call 153;refine j.out.mono ?_;rintro e i ⟨rfl,rfl⟩))
  go_ret2
  exact⟨rfl,qwd _ _⟩
 ·have b:nby x L.length= -1:=by unfold nby;rw[if_pos (by omega)]
  rw[b] at a;clear f g b;go_enter Tryz.func142,Tryz.ntmps142
  go_wp2_with (first
   |(go_at_call 152;refine a.out.mono ?_;rintro e i ⟨rfl,rfl⟩))
  go_ret2
  exact⟨rfl,qwd _ _⟩
theorem zo7{w:World}{A:Option Addr}{n c:Nat}{L:List Nat}(x:Int)(h:Reads w w.heap.size 1 A n (zar .u64 L))(d:∀x∈L,x<=18446744073709551615)(f:n<=9223372036854775807)(b: -9223372036854775808<=x)(g:x<=9223372036854775807):
 Calls Tryz.prog 142 #[.slice A n c,.int .i64 x] w (OptB (zqe L x) w):=by
 have e:=h.len;unfold zqe;split
 ·rename_i a
  obtain⟨y,rfl⟩:=qsu a.1;have:=z84 (c:=c) y h d (by omega) (by omega) (by omega);rw[e] at this⊢;exact this
 ·rename_i a
  exact qe7 x h d f b g a
theorem zzk{w:World}{A:Option Addr}{m c:Nat}{b:List Nat}(x n:Nat)(h:Reads w w.heap.size 1 A m (zar .u8 b))(K:∀x∈b,x<256)(hx:x<=64)(hn:n<=65536)(hm:b.length=(x*n+7)/8)(L:num b<2^(x*n)):
 Calls Tryz.prog 188 #[.slice A m c,.int .i64 (x:Int),.int .i64 (n:Int)] w (OptW (some (zr3 x n (num b))) w):=by
 obtain rfl:=h.len;have Y:=qwk (zss x n w hx hn);rw[<-hm] at Y;have hp:x*n<=64*65536:=quy hx hn;obtain⟨M,J⟩:∃M,M=x*n:=⟨_,rfl⟩;rw[<-J] at hp L hm;have a2:(x:Int)*(n:Int)=(M:Int):=by rw[J,qrm]
 have H:=(z1y b K M (M%8) hm rfl).1 L;obtain⟨q,r,l,q1,q2,q3,Z,d2⟩:=zt5 M (by omega);rw[<-l.out.2] at H;have a7:b.length<=524288:=by omega
 have a8:M<=8*b.length:=by omega
 have HM:=qwk J;have G:=qwk hm;clear J hm L Z;by_cases T:r=0;all_goals first
  |(subst T
    clear H)
  |(have Q:b.length-1<b.length:=by have:=G.out;have:=l.out.2;omega
    obtain⟨ad,rfl,a3,P⟩:=h.num Q;have b6:(0:Int)<(r:Int):=by omega
    have a9:(1:Int)<=(b.length:Int):=by omega
    have hL:=H.resolve_left T;generalize b.getD (b.length-1) 0=y at*;have X:((y:Int)/2^r != 0)=false:=by
     have e:((y:Int)/2^r)=((y/2^r:Nat):Int):=by simp
     rw[e,hL];rfl
    clear H hL T)
 all_goals
  go_enter Tryz.func188,Tryz.ntmps188
  go_wp2_with (first
   |(go_at_call 152;refine Y.out.mono ?_;rintro e w1 ⟨rfl,rfl⟩)
   |(refine zcf elW rfl (.tmp 36) (.tmp 36) rfl (W:=w) (B:=w.heap.size) n n rfl rfl rfl rfl (by omega) (qwd _ _) (qq0 _) rfl (by omega) (by simp only[maxLen];omega) ?_
     intro w1 C a5 N b7))
  go_loopw [10,39] (fun a i wr=>∃k m:Nat,k<=n/\m=x*k/\i= .int .i64 (k:Int)/\a= .int .i64 (m:Int)/\Own wr w.heap.size 138 (.slice (some ⟨w.heap.size,0,none⟩) n n) (zar .u64 (zr3 x k (num b)++List.replicate (n-k) 0))/\Below w.heap.size w wr) (fun _ i _=>n-(intOf i).toNat)
  case atStart=>exact⟨0,0,by omega,rfl,rfl,rfl,by simpa[zr3,zb5] using C,N⟩
  case round=>
   obtain⟨k,m,hk,hm,rfl,rfl,d,p⟩:=hrel;by_cases s:k<n
   ·rw[qki x k (num b) n s] at d
    have b1:m+x<=M:=by have h1:x*(k+1)<=x*n:=qty _ s;rw[qtx] at h1;have:=HM.out;omega
    have G:=qwk hm;clear hm;go_wp2
    obtain⟨wo,rfl⟩:∃wo:World,wo=wr:=⟨_,rfl⟩;go_loopw [10,43] (fun a i wr=>∃j g:Nat,j<=x/\g=m+j/\i= .int .i64 (j:Int)/\a= .int .i64 (g:Int)/\Own wr w.heap.size 138 (.slice (some ⟨w.heap.size,0,none⟩) n n) (zar .u64 (ul x k j (num b) n))/\Below w.heap.size w wr) (fun _ i _=>x-(intOf i).toNat)
    case atStart=>exact⟨0,m,by omega,rfl,rfl,rfl,d,p⟩
    case round=>
     obtain⟨j,g,hj,u,rfl,rfl,d,p⟩:=hrel;by_cases b0:j<x
     ·have R:g<8*b.length:=by omega
      obtain⟨q,r,l,q1,q2,q3,Z,d2⟩:=zt5 g (by omega);obtain⟨F,a6,hc,hf,o⟩:=d.num0 (i:=k) s;have D:=qwk u;have E:=qwk o;clear u o;obtain⟨a1,I,a0,a4⟩:=(h.below p).num (i:=q) (by omega);first|(subst I;skip)|(injection I with I;subst I)
      obtain⟨t,U⟩:∃t,t=num b/2^g%2:=⟨_,rfl⟩;have f:=qmw b K g q r l.out R;have V:t<=1:=by omega
      have S:=qkk x k j (num b) n g t (by rw[D.out,G.out]) U;rw[qkj] at hc;rw[<-U] at f;have hv:num b/2^(x*k)%2^j<2^j:=qr7 _ (qsn _);generalize num b/2^(x*k)%2^j=v at*;have hy:=zf0 b q K;generalize b.getD q 0=y at*;have O:=qe8 v j t hv V (by omega);obtain⟨z,X⟩:∃z,z=v+t*2^j:=⟨_,rfl⟩;rw[<-X] at O S;have T1:=qe9 y r t hy f.symm;have T2:IntKind.u64.wrap (t:Int)=(t:Int):=by rw[qwp];omega
      have HS:=qwk S;have b2:(q:Int)<(b.length:Int):=by omega
      have b3:(0:Int)<=(q:Int):=by omega
      have b4:(k:Int)<(n:Int):=by omega
      have b5:(0:Int)<=(k:Int):=by omega
      clear S X U f hv;go_wp2
      go_still_tail 18,(by kernel_rfl)
      go_wp2
      go_roundw
      case rel=>exact⟨j+1,g+1,by omega,by have:=D.out;omega,by go_num,by go_num,by rw[<-HS.out];exact E.out z,by first|exact(p.drew).setCell F _|exact p.setCell F _⟩
      case measure=>simp[intOf];omega
     ·obtain rfl:j=x:=by omega
      rw[qmv] at d;go_wp2
      go_roundw
      case rel=>exact⟨k+1,g,by omega,by rw[u,G.out,qtx],by go_num,rfl,d,p⟩
      case measure=>simp[intOf];omega
   ·obtain rfl:k=n:=by omega
    rw[qsz,qup,qra] at d;go_wp2
    go_ret2
    exact⟨_,_,_,rfl,d,p⟩
theorem z4q{w:World}{A:Option Addr}{m c:Nat}{b:List Nat}(x n:Int)(h:Reads w w.heap.size 1 A m (zar .u8 b))(C:∀x∈b,x<256)(hm:m<=9223372036854775807)(v: -9223372036854775808<=x)(N:x<=9223372036854775807)(u: -9223372036854775808<=n)(H:n<=9223372036854775807)
 (o: ¬(0<=x/\x<=64/\0<=n/\n<=65536/\b.length=(x.toNat*n.toNat+7)/8/\num b<2^(x.toNat*n.toNat))):
 Calls Tryz.prog 188 #[.slice A m c,.int .i64 x,.int .i64 n] w (OptW none w):=by
 obtain rfl:=h.len;have i:=qwk (zqd x n w v N u H);by_cases d:(b.length:Int)=nby x n
 ·have s:0<=x/\x<=64/\0<=n/\n<=65536:=by
   unfold nby at d;split at d<;> omega
  obtain⟨x,rfl⟩:=qsu s.1;obtain⟨n,rfl⟩:=qsu s.2.2.1;rw[zum x n (by omega) (by omega)] at d i;have a:b.length=(x*n+7)/8:=by omega
  rw[<-a] at i;obtain⟨M,f⟩:∃M,M=x*n:=⟨_,rfl⟩;have I:x*n<=64*65536:=quy (by omega) (by omega);have j: ¬num b<2^M:=by
   intro j;refine o ⟨by omega,by omega,by omega,by omega,?_,?_⟩
   ·simpa using a
   ·simpa[<-f] using j
  rw[<-f] at I a;have E:(x:Int)*(n:Int)=(M:Int):=by rw[f,qrm]
  obtain⟨q,r,g,T,U,V,z,R⟩:=zt5 M (by omega);have k:=(not_congr (z1y b C M r a g.out.2)).1 j;have l:=g.out.2;have J: ¬r=0:=fun e=>k (.inl e)
  have D: ¬b.getD (b.length-1) 0/2^r=0:=fun e=>k (.inr e)
  have t:b.length-1<b.length:=by omega
  obtain⟨Q,rfl,F,p⟩:=h.num t;have K:(0:Int)<(r:Int):=by omega
  have G:(1:Int)<=(b.length:Int):=by omega
  generalize b.getD (b.length-1) 0=y at*;have S:((y:Int)/2^r != 0)=true:=by
   have e:((y:Int)/2^r)=((y/2^r:Nat):Int):=by simp
   rw[e,bne_iff_ne];omega
  clear k D J l j a o s d z;have P:=qwk f;clear f;go_enter Tryz.func188,Tryz.ntmps188
  go_wp2_with (first
   |(go_at_call 152;refine i.out.mono ?_;rintro e O ⟨rfl,rfl⟩))
  go_ret2
  exact⟨rfl,qwd _ _⟩
 ·have L:((b.length:Int) != nby x n)=true:=by rw[bne_iff_ne];exact d
  generalize nby x n=B at*;clear d o;go_enter Tryz.func188,Tryz.ntmps188
  go_wp2_with (first
   |(go_at_call 152;refine i.out.mono ?_;rintro e O ⟨rfl,rfl⟩))
  go_ret2
  exact⟨rfl,qwd _ _⟩
theorem z4r{w:World}{A:Option Addr}{m c:Nat}{b:List Nat}(x n:Int)(h:Reads w w.heap.size 1 A m (zar .u8 b))(f:∀x∈b,x<256)(hm:m<=9223372036854775807)(e: -9223372036854775808<=x)(i:x<=9223372036854775807)(d: -9223372036854775808<=n)(g:n<=9223372036854775807):
 Calls Tryz.prog 188 #[.slice A m c,.int .i64 x,.int .i64 n] w (OptW (zch b x n) w):=by
 unfold zch;split
 ·rename_i a
  obtain⟨x,rfl⟩:=qsu a.1;obtain⟨n,rfl⟩:=qsu a.2.2.1;simp only[qrn] at a⊢;exact zzk x n h f (by omega) (by omega) a.2.2.2.2.1 a.2.2.2.2.2
 ·rename_i a
  exact z4q x n h f hm e i d g a
end Go.Proofs.Y
