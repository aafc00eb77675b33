import Derived.StillTailTactics
import Derived.Test.YtbahbnbpmfgimaaGreatDoorBun6
import Derived.Test.YtbahbnbpmfgimaaGreatDoorBun7
set_option maxHeartbeats 1000000
set_option maxRecDepth 100000
namespace Go.Hm
def wid(l:List Nat):Nat:=l.foldl (fun a x=>max a (Lib.bitLen x)) 0
theorem zjd(n:Nat):∀k,k<=64->n<18446744073709551616->(Lib.bitLen n<=k↔n<2^k):=by
 intro k hk hn;refine⟨fun h=>?_,fun h=>Lib.bitLen_le n k hk h⟩;induction k generalizing n with
 |zero=>
  by_cases h0:n=0
  ·omega
  ·have:=Lib.bitLen_half n h0 hn
   omega
 |succ k ih=>
  by_cases h0:n=0
  ·subst h0;exact qnv _
  ·have h1:=Lib.bitLen_half n h0 hn
   have h2:=ih (n/2) (by omega) (by omega) (by omega);rw[qm3];omega
theorem zs8(n:Nat)(hn:n<18446744073709551616):Lib.bitLen n<=64:=Lib.bitLen_le n 64 (by omega) hn
theorem z6u(a b:Nat)(ha:a<18446744073709551616)(hb:b<18446744073709551616):Lib.bitLen (a ||| b)=max (Lib.bitLen a) (Lib.bitLen b):=by
 have hab:a ||| b<18446744073709551616:=qp2 (n:=64) ha hb;have ha64:=zs8 a ha;have hb64:=zs8 b hb;have hab64:=zs8 _ hab;have key:∀k,k<=64->(Lib.bitLen (a ||| b)<=k↔max (Lib.bitLen a) (Lib.bitLen b)<=k):=by intro k hk;rw[zjd _ k hk hab,Nat.max_le,zjd a k hk ha,zjd b k hk hb];exact⟨fun h=>⟨qm6 Nat.left_le_or h,qm6 Nat.right_le_or h⟩,fun h=>qp2 h.1 h.2⟩
 have h1:=(key _ hab64).1 (ql6 _);have h2:=(key (max (Lib.bitLen a) (Lib.bitLen b)) (by omega)).2 (ql6 _);omega
theorem qb5(l:List Nat)(x:Nat):wid (l++[x])=max (wid l) (Lib.bitLen x):=by simp[wid]
def ors(l:List Nat):Nat:=l.foldl (· ||| ·) 0
theorem z0c(l:List Nat)(x:Nat):ors (l++[x])=ors l ||| x:=by simp[ors]
theorem qb6(k:Nat)(l:List Nat)(hk:k<=l.length)(hl:∀x∈l,x<=18446744073709551615):ors (l.take k)<18446744073709551616/\Lib.bitLen (ors (l.take k))=wid (l.take k):=by
 induction k with
 |zero=>simp[ors,wid];decide
 |succ k ih=>
  obtain⟨h1,h2⟩:=ih (by omega);have hx:l.getD k 0<=18446744073709551615:=by rw[qnp,qlx (by omega)];exact hl _ (qml (by omega))
  rw[zae l k 0 (by omega),z0c,qb5];exact⟨qp2 (n:=64) h1 (by omega),by rw[z6u _ _ h1 (by omega),h2]⟩
theorem zh4(l:List Nat)(k:Nat)(hk:k<=64)(hl:∀x∈l,x<=18446744073709551615):wid l<=k↔ ∀x∈l,x<2^k:=by
 have:∀(l:List Nat) a,(∀x∈l,x<=18446744073709551615)->(l.foldl (fun a x=>max a (Lib.bitLen x)) a<=k↔a<=k/\ ∀x∈l,x<2^k):=by
  intro l;induction l with
  |nil=>intro a _;simp
  |cons y l ih=>
   intro a h;rw[qp3,ih _ (fun x hx=>h x (by simp[hx])),Nat.max_le,zjd y k hk (by have:=h y (by simp);omega)];simp[and_assoc]
 rw[wid,this l 0 hl];simp
theorem zo2(l:List Nat)(hl:∀x∈l,x<=18446744073709551615):wid l<=64:=(zh4 l 64 (by omega) hl).2 fun x hx=>by have:=hl x hx;omega
end Go.Hm
namespace Go.Proofs.Y
open Go.RowKit Go.Hm
def zxu(v:Int)(w:World)(e:Ending)(w':World):Prop:=e= .returned (.int .i64 v)/\w=w'
theorem zk2{w:World}{A:Option Addr}{n c:Nat}{L:List Nat}(h:Reads w w.heap.size 1 A n (zah .u64 L))(hL:∀x∈L,x<=18446744073709551615)(hn:n<=9223372036854775807):
 Calls Tryz.prog 153 #[.slice A n c] w (zxu (wid L) w):=by
 obtain rfl:=h.len;go_enter Tryz.func153,Tryz.ntmps153
 go_wp2
 go_loop [3,8] (fun v i=>∃k:Nat,k<=L.length/\i= .int .i64 (k:Int)/\v= .int .u64 (ors (L.take k):Int)) (fun _ i=>L.length-(intOf i).toNat)
 case atStart=>exact⟨0,by omega,rfl,by simp[ors]⟩
 case round=>
  obtain⟨k,hk,rfl,rfl⟩:=hrel;have HO:=qb6 k L hk hL;by_cases hlt:k<L.length
  ·obtain⟨ad,rfl,hb,hcell⟩:=h.num hlt
   have HT:=qrf (zae L k 0 hlt);have hl0:L.getD k 0<=18446744073709551615:=by rw[qnp,qlx hlt];exact hL _ (qml hlt)
   generalize L.getD k 0=y at*;obtain⟨h1,_⟩:=HO;generalize hO:ors (L.take k)=o at*;have HO:=qrf hO;clear hO;have hor:=u64_or_nat o y h1 (by omega);have Hor:=qrf hor;clear hor;go_wp2
   go_round
   case rel=>exact⟨k+1,by omega,by go_num,by rw[HT.out,z0c,HO.out,Hor.out]⟩
   case measure=>simp[intOf];omega
  ·obtain rfl:k=L.length:=by omega
   rw[qp1] at*;have LB:=qrf (bits_Len64 (ors L:Int) w (by omega) (by omega));have HO2:=qrf HO.2;clear HO;go_wp2_with (go_at_call 120;refine LB.out.mono ?_;rintro e w' ⟨rfl,rfl⟩)
   go_ret
   exact⟨by rw[<-HO2.out];rfl,rfl⟩
def nby(w n:Int):Int:=if w<0\/64<w\/n<0\/65536<n then-1 else(w*n+7)/8
theorem z6v(x n:Nat)(hx:x<=64)(hn:n<=65536):nby (x:Int) (n:Int)=(((x*n+7)/8:Nat):Int):=by unfold nby;rw[if_neg (by omega),<-qms];omega
theorem zo3(x n:Int)(w:World)(hx0: -9223372036854775808<=x)(hx:x<=9223372036854775807)(hn0: -9223372036854775808<=n)(hn:n<=9223372036854775807):Calls Tryz.prog 152 #[.int .i64 x,.int .i64 n] w (zxu (nby x n) w):=by
 by_cases hg:0<=x/\x<=64/\0<=n/\n<=65536
 ·obtain⟨h1,h2,h3,h4⟩:=hg
  have p0:0<=x*n:=qp4 h1 h3;have p1:x*n<=64*65536:=Int.mul_le_mul h2 h4 h3 (by omega);have e:nby x n=(x*n+7)/8:=by unfold nby;rw[if_neg (by omega)]
  rw[e];have w1:wrap64 (x*n)=x*n:=by unfold wrap64;omega
  have w2:wrap64 (x*n+7)=x*n+7:=by unfold wrap64;omega
  have w3:(x*n+7).tdiv 8=(x*n+7)/8:=qor (by omega);have w4:wrap64 ((x*n+7)/8)=(x*n+7)/8:=by unfold wrap64;omega
  clear e;go_enter Tryz.func152,Tryz.ntmps152
  go_wp2
  all_goals first|(exfalso;omega)|go_ret
  exact⟨rfl,rfl⟩
 ·have e:nby x n= -1:=by unfold nby;rw[if_pos (by omega)]
  rw[e];clear e;go_enter Tryz.func152,Tryz.ntmps152
  go_wp2
  all_goals first|(exfalso;omega)|go_ret
  all_goals exact⟨rfl,rfl⟩
theorem zrm(x n:Nat)(w:World)(hx:x<=64)(hn:n<=65536):Calls Tryz.prog 152 #[.int .i64 (x:Int),.int .i64 (n:Int)] w (zxu ((x*n+7)/8:Nat) w):=by have:=zo3 x n w (by omega) (by omega) (by omega) (by omega);rwa[z6v x n hx hn] at this
def zq1(L:List Nat)(x:Int):Option (List Nat):=
 if 0<=x/\x<=64/\L.length<=65536/\(wid L:Int)<=x then some (low (pk x.toNat L) ((x.toNat*L.length+7)/8)) else none
def zfz(b:List Nat)(x n:Int):Option (List Nat):=
 if 0<=x/\x<=64/\0<=n/\n<=65536/\b.length=(x.toNat*n.toNat+7)/8/\num b<2^(x.toNat*n.toNat) then some (zqq x.toNat n.toNat (num b)) else none
theorem z6w{w:World}{A:Option Addr}{n c:Nat}{L:List Nat}(x:Nat)(h:Reads w w.heap.size 1 A n (zah .u64 L))(hL:∀x∈L,x<=18446744073709551615)(hn:n<=65536)(hx:x<=64)(hw:wid L<=x):
 Calls Tryz.prog 142 #[.slice A n c,.int .i64 (x:Int)] w (OptB (some (low (pk x L) ((x*n+7)/8))) w):=by
 obtain rfl:=h.len;obtain⟨s,hs⟩:∃s,s=(x*L.length+7)/8:=⟨_,rfl⟩;have hp:x*L.length<=64*65536:=qp5 hx hn;have hs1:s<=524288:=by omega
 have hs2:x*L.length<=8*s:=by omega
 have B1:=qrf (zrm x L.length w hx hn);rw[<-hs] at B1⊢;have W1:=qrf (zk2 (c:=c) h hL (by omega));have HS:=qrf hs2;clear hs hs2 hp;go_enter Tryz.func142,Tryz.ntmps142
 go_wp2_with (first
  |(go_at_call 152;refine B1.out.mono ?_;rintro e w1 ⟨rfl,rfl⟩)
  |(go_at_call 153;refine W1.out.mono ?_;rintro e w1 ⟨rfl,rfl⟩)
  |(refine zci elB rfl (.tmp 24) (.tmp 24) rfl (W:=w) (B:=w.heap.size) s s rfl rfl rfl rfl (by omega) (qq8 _ _) (ql6 _) rfl (by omega) (by simp only[maxLen];omega) ?_
    intro w1 hown1 hg1 hb1 hs1))
 go_loopw [8,28] (fun a i wr=>∃k m:Nat,k<=L.length/\m=x*k/\i= .int .i64 (k:Int)/\a= .int .i64 (m:Int)/\Own wr w.heap.size 5 (.slice (some ⟨w.heap.size,0,none⟩) s s) (zah .u8 (low (pk x (L.take k)) s))/\Below w.heap.size w wr) (fun _ i _=>L.length-(intOf i).toNat)
 case atStart=>exact⟨0,0,by omega,rfl,rfl,rfl,by simpa[pk,qbb,zb8] using hown1,hb1⟩
 case round=>
  obtain⟨k,m,hk,hm,rfl,rfl,hown,hb⟩:=hrel;by_cases hlt:k<L.length
  ·obtain⟨ad,rfl,hbl,hcell⟩:=(h.below hb).num hlt
   have hy:L.getD k 0<2^x:=(zh4 L x hx hL).1 hw _ (by rw[qnp,qlx hlt];exact qml hlt);have hl0:L.getD k 0<=18446744073709551615:=by rw[qnp,qlx hlt];exact hL _ (qml hlt)
   have HT:=qrf (zae L k 0 hlt);have hX:=qii x (L.take k) (fun z hz=>(zh4 L x hx hL).1 hw z (qmu hz));rw[ql2,ql3 (by omega),<-hm] at hX;have hmx:m+x<=8*s:=by have h1:x*(k+1)<=x*L.length:=qo7 _ hlt;rw[qo6] at h1;have:=HS.out;omega
   generalize L.getD k 0=y at*;generalize hpk:pk x (L.take k)=X at*;have HP:=qrf hpk;clear hpk;have Hm:=qrf hm;have HX:=qrf hX;have HY:=qrf hy;clear hm hX hy;go_wp2
   obtain⟨wo,rfl⟩:∃wo:World,wo=wr:=⟨_,rfl⟩;go_loopw [8,33] (fun a i wr=>∃j m':Nat,j<=x/\m'=m+j/\i= .int .i64 (j:Int)/\a= .int .i64 (m':Int)/\Own wr w.heap.size 5 (.slice (some ⟨w.heap.size,0,none⟩) s s) (zah .u8 (low (X+y%2^j*2^m) s))/\Below w.heap.size w wr) (fun _ i _=>x-(intOf i).toNat)
   case atStart=>exact⟨0,m,by omega,rfl,rfl,rfl,by simpa[Nat.mod_one] using hown,hb⟩
   case round=>
    obtain⟨j,m',hj,hm',rfl,rfl,hown,hb⟩:=hrel;by_cases hlj:j<x
    ·have hm8:m'<8*s:=by omega
     obtain⟨q,r,hqr,q1,q2,q3,d1,d2⟩:=zsm m' (by omega);obtain⟨hg0,hgl,hc,hf,hset⟩:=hown.num0 (i:=q) (by omega);have Hm':=qrf hm';have Hset:=qrf hset;clear hm' hset;generalize hbb:(low (X+y%2^j*2^m) s).getD q 0=bb at*;have Hbb:=qrf hbb;clear hbb;obtain⟨t,ht,t1,t2,t3⟩:=qkb y j hl0;have hq4:(q:Int)<(s:Int):=by omega
     have hq5:(0:Int)<=(q:Int):=by omega
     have P:=z5x s y j m' q r t HX.out Hm'.out hm8 hqr.out ht.out;rw[Hbb.out] at P;obtain⟨z,hz⟩:∃z,z=bb+t*2^r:=⟨_,rfl⟩;have O:=qft bb r t P.1 t1 q2;rw[<-hz] at O P;have HP:=qrf P.2;clear P hz;go_wp2
     go_still_tail 15,(by kernel_rfl)
     go_wp2
     go_roundw
     case rel=>exact⟨j+1,m'+1,by omega,by have:=Hm'.out;omega,by go_num,by go_num,by rw[<-HP.out];exact Hset.out z,by first|exact(hb.drew).setCell hg0 _|exact hb.setCell hg0 _⟩
     case measure=>simp[intOf];omega
    ·obtain rfl:j=x:=by omega
     go_wp2
     go_roundw
     case rel=>exact⟨k+1,m',by omega,by rw[hm',Hm.out,qo6],by go_num,rfl,by rw[HT.out,z5v,ql2,ql3 (by omega),<-Hm.out,HP.out];rw[qng HY.out,qmr] at hown;exact hown,hb⟩
     case measure=>simp[intOf];omega
  ·obtain rfl:k=L.length:=by omega
   rw[qp1] at hown;go_wp2
   go_ret2
   exact⟨_,_,_,rfl,hown,hb⟩
theorem qb7{w:World}{A:Option Addr}{n c:Nat}{L:List Nat}(x:Int)(h:Reads w w.heap.size 1 A n (zah .u64 L))(hL:∀x∈L,x<=18446744073709551615)(hn:n<=9223372036854775807)(hx0: -9223372036854775808<=x)(hx:x<=9223372036854775807)
 (hb: ¬(0<=x/\x<=64/\L.length<=65536/\(wid L:Int)<=x)):
 Calls Tryz.prog 142 #[.slice A n c,.int .i64 x] w (OptB none w):=by
 obtain rfl:=h.len;have B1:=qrf (zo3 x L.length w hx0 hx (by omega) (by omega));have W1:=qrf (zk2 (c:=c) h hL (by omega));by_cases hs:0<=x/\x<=64/\L.length<=65536
 ·have hy:x<(wid L:Int):=by omega
  have h0:0<=nby x L.length:=by unfold nby;rw[if_neg (by omega)];have:0<=x*(L.length:Int):=qp4 (by omega) (by omega);omega
  clear hb hs;generalize nby x L.length=B at*;generalize wid L=W at*;go_enter Tryz.func142,Tryz.ntmps142
  go_wp2_with (first
   |(go_at_call 152;refine B1.out.mono ?_;rintro e w1 ⟨rfl,rfl⟩)
   |(go_at_call 153;refine W1.out.mono ?_;rintro e w1 ⟨rfl,rfl⟩))
  go_ret2
  exact⟨rfl,qq8 _ _⟩
 ·have h0:nby x L.length= -1:=by unfold nby;rw[if_pos (by omega)]
  rw[h0] at B1;clear hb hs h0;go_enter Tryz.func142,Tryz.ntmps142
  go_wp2_with (first
   |(go_at_call 152;refine B1.out.mono ?_;rintro e w1 ⟨rfl,rfl⟩))
  go_ret2
  exact⟨rfl,qq8 _ _⟩
theorem zn1{w:World}{A:Option Addr}{n c:Nat}{L:List Nat}(x:Int)(h:Reads w w.heap.size 1 A n (zah .u64 L))(hL:∀x∈L,x<=18446744073709551615)(hn:n<=9223372036854775807)(hx0: -9223372036854775808<=x)(hx:x<=9223372036854775807):
 Calls Tryz.prog 142 #[.slice A n c,.int .i64 x] w (OptB (zq1 L x) w):=by
 have hl:=h.len;unfold zq1;split
 ·rename_i hg
  obtain⟨y,rfl⟩:=qn1 hg.1;have:=z6w (c:=c) y h hL (by omega) (by omega) (by omega);rw[hl] at this⊢;exact this
 ·rename_i hg
  exact qb7 x h hL hn hx0 hx hg
theorem zxv{w:World}{A:Option Addr}{m c:Nat}{b:List Nat}(x n:Nat)(h:Reads w w.heap.size 1 A m (zah .u8 b))(h8:∀x∈b,x<256)(hx:x<=64)(hn:n<=65536)(hm:b.length=(x*n+7)/8)(hN:num b<2^(x*n)):
 Calls Tryz.prog 188 #[.slice A m c,.int .i64 (x:Int),.int .i64 (n:Int)] w (OptW (some (zqq x n (num b))) w):=by
 obtain rfl:=h.len;have B1:=qrf (zrm x n w hx hn);rw[<-hm] at B1;have hp:x*n<=64*65536:=qp5 hx hn;obtain⟨M,hM⟩:∃M,M=x*n:=⟨_,rfl⟩;rw[<-hM] at hp hN hm;have hMI:(x:Int)*(n:Int)=(M:Int):=by rw[hM,qms]
 have NL:=(z0d b h8 M (M%8) hm rfl).1 hN;obtain⟨q,r,hqr,q1,q2,q3,d1,d2⟩:=zsm M (by omega);rw[<-hqr.out.2] at NL;have hl1:b.length<=524288:=by omega
 have hl2:M<=8*b.length:=by omega
 have HM:=qrf hM;have Hm:=qrf hm;clear hM hm hN d1;by_cases hr:r=0;all_goals first
  |(subst hr
    clear NL)
  |(have hl0:b.length-1<b.length:=by have:=Hm.out;have:=hqr.out.2;omega
    obtain⟨ad,rfl,hbl,hcell⟩:=h.num hl0;have hr0:(0:Int)<(r:Int):=by omega
    have hlI:(1:Int)<=(b.length:Int):=by omega
    have hL:=NL.resolve_left hr;generalize b.getD (b.length-1) 0=y at*;have hz:((y:Int)/2^r != 0)=false:=by
     have e:((y:Int)/2^r)=((y/2^r:Nat):Int):=by simp
     rw[e,hL];rfl
    clear NL hL hr)
 all_goals
  go_enter Tryz.func188,Tryz.ntmps188
  go_wp2_with (first
   |(go_at_call 152;refine B1.out.mono ?_;rintro e w1 ⟨rfl,rfl⟩)
   |(refine zci elW rfl (.tmp 36) (.tmp 36) rfl (W:=w) (B:=w.heap.size) n n rfl rfl rfl rfl (by omega) (qq8 _ _) (ql6 _) rfl (by omega) (by simp only[maxLen];omega) ?_
     intro w1 hown1 hg1 hb1 hs1))
  go_loopw [10,39] (fun a i wr=>∃k m:Nat,k<=n/\m=x*k/\i= .int .i64 (k:Int)/\a= .int .i64 (m:Int)/\Own wr w.heap.size 138 (.slice (some ⟨w.heap.size,0,none⟩) n n) (zah .u64 (zqq x k (num b)++List.replicate (n-k) 0))/\Below w.heap.size w wr) (fun _ i _=>n-(intOf i).toNat)
  case atStart=>exact⟨0,0,by omega,rfl,rfl,rfl,by simpa[zqq,zb8] using hown1,hb1⟩
  case round=>
   obtain⟨k,m,hk,hm,rfl,rfl,hown,hb⟩:=hrel;by_cases hlt:k<n
   ·rw[qgo x k (num b) n hlt] at hown
    have hmx:m+x<=M:=by have h1:x*(k+1)<=x*n:=qo7 _ hlt;rw[qo6] at h1;have:=HM.out;omega
    have Hm:=qrf hm;clear hm;go_wp2
    obtain⟨wo,rfl⟩:∃wo:World,wo=wr:=⟨_,rfl⟩;go_loopw [10,43] (fun a i wr=>∃j m':Nat,j<=x/\m'=m+j/\i= .int .i64 (j:Int)/\a= .int .i64 (m':Int)/\Own wr w.heap.size 138 (.slice (some ⟨w.heap.size,0,none⟩) n n) (zah .u64 (ul x k j (num b) n))/\Below w.heap.size w wr) (fun _ i _=>x-(intOf i).toNat)
    case atStart=>exact⟨0,m,by omega,rfl,rfl,rfl,hown,hb⟩
    case round=>
     obtain⟨j,m',hj,hm',rfl,rfl,hown,hb⟩:=hrel;by_cases hlj:j<x
     ·have hm8:m'<8*b.length:=by omega
      obtain⟨q,r,hqr,q1,q2,q3,d1,d2⟩:=zsm m' (by omega);obtain⟨hg0,hgl,hc,hf,hset⟩:=hown.num0 (i:=k) hlt;have Hm':=qrf hm';have Hset:=qrf hset;clear hm' hset;obtain⟨ad1,e1,hbl1,hcb⟩:=(h.below hb).num (i:=q) (by omega);first|(subst e1;skip)|(injection e1 with e1;subst e1)
      obtain⟨t,ht⟩:∃t,t=num b/2^m'%2:=⟨_,rfl⟩;have hbit:=qio b h8 m' q r hqr.out hm8;have ht1:t<=1:=by omega
      have S:=qgq x k j (num b) n m' t (by rw[Hm'.out,Hm.out]) ht;rw[qgp] at hc;rw[<-ht] at hbit;have hv:num b/2^(x*k)%2^j<2^j:=qnf _ (qnv _);generalize num b/2^(x*k)%2^j=v at*;have hy:=ze3 b q h8;generalize b.getD q 0=y at*;have O:=qb8 v j t hv ht1 (by omega);obtain⟨z,hz⟩:∃z,z=v+t*2^j:=⟨_,rfl⟩;rw[<-hz] at O S;have T1:=qb9 y r t hy hbit.symm;have T2:IntKind.u64.wrap (t:Int)=(t:Int):=by rw[qrj];omega
      have HS:=qrf S;have hq4:(q:Int)<(b.length:Int):=by omega
      have hq5:(0:Int)<=(q:Int):=by omega
      have hq6:(k:Int)<(n:Int):=by omega
      have hq7:(0:Int)<=(k:Int):=by omega
      clear S hz ht hbit hv;go_wp2
      go_still_tail 18,(by kernel_rfl)
      go_wp2
      go_roundw
      case rel=>exact⟨j+1,m'+1,by omega,by have:=Hm'.out;omega,by go_num,by go_num,by rw[<-HS.out];exact Hset.out z,by first|exact(hb.drew).setCell hg0 _|exact hb.setCell hg0 _⟩
      case measure=>simp[intOf];omega
     ·obtain rfl:j=x:=by omega
      rw[qin] at hown;go_wp2
      go_roundw
      case rel=>exact⟨k+1,m',by omega,by rw[hm',Hm.out,qo6],by go_num,rfl,hown,hb⟩
      case measure=>simp[intOf];omega
   ·obtain rfl:k=n:=by omega
    rw[qn6,qpq,qmg] at hown;go_wp2
    go_ret2
    exact⟨_,_,_,rfl,hown,hb⟩
theorem z2q{w:World}{A:Option Addr}{m c:Nat}{b:List Nat}(x n:Int)(h:Reads w w.heap.size 1 A m (zah .u8 b))(h8:∀x∈b,x<256)(hm:m<=9223372036854775807)(hx0: -9223372036854775808<=x)(hx:x<=9223372036854775807)(hn0: -9223372036854775808<=n)(hn:n<=9223372036854775807)
 (hb: ¬(0<=x/\x<=64/\0<=n/\n<=65536/\b.length=(x.toNat*n.toNat+7)/8/\num b<2^(x.toNat*n.toNat))):
 Calls Tryz.prog 188 #[.slice A m c,.int .i64 x,.int .i64 n] w (OptW none w):=by
 obtain rfl:=h.len;have B1:=qrf (zo3 x n w hx0 hx hn0 hn);by_cases hs:(b.length:Int)=nby x n
 ·have hg:0<=x/\x<=64/\0<=n/\n<=65536:=by
   unfold nby at hs;split at hs<;> omega
  obtain⟨x,rfl⟩:=qn1 hg.1;obtain⟨n,rfl⟩:=qn1 hg.2.2.1;rw[z6v x n (by omega) (by omega)] at hs B1;have hs':b.length=(x*n+7)/8:=by omega
  rw[<-hs'] at B1;obtain⟨M,hM⟩:∃M,M=x*n:=⟨_,rfl⟩;have hp:x*n<=64*65536:=qp5 (by omega) (by omega);have hN: ¬num b<2^M:=by
   intro hN;refine hb ⟨by omega,by omega,by omega,by omega,?_,?_⟩
   ·simpa using hs'
   ·simpa[<-hM] using hN
  rw[<-hM] at hp hs';have hMI:(x:Int)*(n:Int)=(M:Int):=by rw[hM,qms]
  obtain⟨q,r,hqr,q1,q2,q3,d1,d2⟩:=zsm M (by omega);have NL:=(not_congr (z0d b h8 M r hs' hqr.out.2)).1 hN;have hM8:=hqr.out.2;have hr: ¬r=0:=fun e=>NL (.inl e)
  have hL: ¬b.getD (b.length-1) 0/2^r=0:=fun e=>NL (.inr e)
  have hl0:b.length-1<b.length:=by omega
  obtain⟨ad,rfl,hbl,hcell⟩:=h.num hl0;have hr0:(0:Int)<(r:Int):=by omega
  have hlI:(1:Int)<=(b.length:Int):=by omega
  generalize b.getD (b.length-1) 0=y at*;have hz:((y:Int)/2^r != 0)=true:=by
   have e:((y:Int)/2^r)=((y/2^r:Nat):Int):=by simp
   rw[e,bne_iff_ne];omega
  clear NL hL hr hM8 hN hs' hb hg hs d1;have HM:=qrf hM;clear hM;go_enter Tryz.func188,Tryz.ntmps188
  go_wp2_with (first
   |(go_at_call 152;refine B1.out.mono ?_;rintro e w1 ⟨rfl,rfl⟩))
  go_ret2
  exact⟨rfl,qq8 _ _⟩
 ·have hs1:((b.length:Int) != nby x n)=true:=by rw[bne_iff_ne];exact hs
  generalize nby x n=B at*;clear hs hb;go_enter Tryz.func188,Tryz.ntmps188
  go_wp2_with (first
   |(go_at_call 152;refine B1.out.mono ?_;rintro e w1 ⟨rfl,rfl⟩))
  go_ret2
  exact⟨rfl,qq8 _ _⟩
theorem z2r{w:World}{A:Option Addr}{m c:Nat}{b:List Nat}(x n:Int)(h:Reads w w.heap.size 1 A m (zah .u8 b))(h8:∀x∈b,x<256)(hm:m<=9223372036854775807)(hx0: -9223372036854775808<=x)(hx:x<=9223372036854775807)(hn0: -9223372036854775808<=n)(hn:n<=9223372036854775807):
 Calls Tryz.prog 188 #[.slice A m c,.int .i64 x,.int .i64 n] w (OptW (zfz b x n) w):=by
 unfold zfz;split
 ·rename_i hg
  obtain⟨x,rfl⟩:=qn1 hg.1;obtain⟨n,rfl⟩:=qn1 hg.2.2.1;simp only[qmt] at hg⊢;exact zxv x n h h8 (by omega) (by omega) hg.2.2.2.2.1 hg.2.2.2.2.2
 ·rename_i hg
  exact z2q x n h h8 hm hx0 hx hn0 hn hg
theorem zf9(L:List Nat)(x:Nat)(hx:x<=64)(hl:L.length<=65536)(hw:wid L<=x):zq1 L (x:Int)=some (low (pk x L) ((x*L.length+7)/8)):=by unfold zq1;rw[if_pos ⟨by omega,by omega,hl,by omega⟩,qmt]
theorem zxw(L:List Nat)(x:Nat)(hx:x<=64)(hl:L.length<=65536)(hw:wid L<=x)(hL:∀x∈L,x<=18446744073709551615):zfz (low (pk x L) ((x*L.length+7)/8)) (x:Int) (L.length:Int)=some L:=by
 have h2:=(zh4 L x hx hL).1 hw;have h1:=qii x L h2;have h3:num (low (pk x L) ((x*L.length+7)/8))=pk x L:=by rw[z44,qga,qng];exact qlz h1 (qnj (by omega) (by omega))
 unfold zfz;rw[if_pos ⟨by omega,by omega,by omega,by omega,by simp only[qmt,zbe],by simp only[qmt,h3];exact h1⟩];simp only[qmt,h3];rw[qf9 x L h2 _ (qng h1)]
theorem zo4{b l:List Nat}{x n:Int}(h8:∀x∈b,x<256)(h:zfz b x n=some l):zq1 l x=some b/\(l.length:Int)=n/\(wid l:Int)<=x/\(∀y∈l,y<=18446744073709551615)/\l.length<=65536:=by
 unfold zfz at h;split at h
 ·rename_i hg
  obtain⟨h1,h2,h3,h4,h5,h6⟩:=hg;injection h with h;obtain⟨x,rfl⟩:=qn1 h1;obtain⟨n,rfl⟩:=qn1 h3;simp only[qmt] at h5 h6 h;have hx:x<=64:=by omega
  have hlt:∀y∈l,y<2^x:=by rw[<-h];exact qf7 _ _ _
  have hll:l.length=n:=by rw[<-h,zfl]
  have hp:2^x<=2^64:=qnj (by omega) hx;have hb:∀y∈l,y<=18446744073709551615:=fun y hy=>by have:=hlt y hy;omega
  have hw:wid l<=x:=(zh4 l x hx hb).2 hlt;refine⟨?_,by omega,by omega,hb,by omega⟩;rw[zf9 l x hx (by omega) hw,hll,<-h5,<-h,qf8,qng h6,zsu b h8]
 ·cases h
end Go.Proofs.Y
namespace Go.Hm
open Go Go.RowKit
def u64N(n:Int):Nat:=(n%18446744073709551616).toNat
def plE(t:Int)(c:zab):List Nat:=
 if t=0 then low (u64N c.2.1) 8 else if t=2 then vp c.2.2.1.length++c.2.2.1 else if t=3 then vp (zig c.2.2.2.1)++vp (zig c.2.2.2.2) else []
def zeg(l:List zab):List Nat:=l.map fun c=>u64N c.2.1
def zk9(t:Int)(l:List zab):Bool:=decide (0<=t/\t<=3/\l.length<=65536)&&l.all fun c=>zam c t false
def plB(t:Int)(l:List zab):List Nat:=if t=1 then low (pk 1 (zeg l)) ((1*l.length+7)/8) else l.flatMap (plE t)
def plO(t:Int)(l:List zab):Option (List Nat):=if zk9 t l then some (plB t l) else none
theorem zx2(n:Int):u64N n<18446744073709551616:=by unfold u64N;omega
theorem plOk_iff{t:Int}{l:List zab}:zk9 t l=true↔(0<=t/\t<=3/\l.length<=65536)/\ ∀c∈l,zam c t false=true:=by unfold zk9;rw[qnt,decide_eq_true_iff,qog]
theorem zla{c:zab}{t:Int}(h:zam c t false=true):c.1=false:=by
 unfold zam at h;cases e:c.1 with
 |false=>rfl
 |true=>rw[e] at h;simp at h
theorem qe4{c:zab}(h:zam c 1 false=true):c.2.1=0\/c.2.1=1:=by have h0:=zla h;unfold zam at h;rw[h0] at h;simp at h;exact h.2
theorem z67{c:zab}(h:zam c 2 false=true):c.2.2.1.length<=65536:=by have h0:=zla h;unfold zam at h;rw[h0] at h;simp at h;exact h.2
theorem zpb{c:zab}(h:zam c 3 false=true):(-1048576<=c.2.2.2.1/\c.2.2.2.1<=1048576)/\ -1048576<=c.2.2.2.2/\c.2.2.2.2<=1048576:=by have h0:=zla h;unfold zam inBox at h;rw[h0] at h;simp at h;omega
theorem zpc{l:List zab}(h:∀c∈l,zam c 1 false=true):wid (zeg l)<=1:=by
 have hb:∀x∈zeg l,x<2:=by intro x hx;obtain⟨c,hc,rfl⟩:=qly.1 hx;rcases qe4 (h c hc) with e|e<;> rw[e]<;> decide
 exact(zh4 _ 1 (by omega) fun x hx=>by have:=hb x hx;omega).2 fun x hx=>by simpa using hb x hx
theorem zx3{t:Int}{c:zab}(h:zam c t false=true):(plE t c).length<=20+c.2.2.1.length:=by
 unfold plE;split
 ·rw[zbe];omega
 ·split
  ·rename_i h2
   subst h2;have:=z67 h;have:=zas (n:=c.2.2.1.length) (by omega);rw[qmv];omega
  ·split
   ·rename_i h2
    subst h2;have:=zpb h;have a:=zas (n:=zig c.2.2.2.1) (by unfold zig;split<;> omega);have b:=zas (n:=zig c.2.2.2.2) (by unfold zig;split<;> omega);rw[qmv];omega
   ·simp
end Go.Hm
namespace Go.Proofs.Y
open Go.RowKit Go.Hm
def encP(p:List Nat):List Nat:=
 if 4<=st p then vp (2*p.length)++vp (p.getD 0 0) else vp (2*p.length+1)++(wid p::low (pk (wid p) p) ((wid p*p.length+7)/8))
def z0p(l:List Nat):List Nat:=(pcs l).flatMap encP
theorem zya{l:List Nat}(h:∀x∈l,x<=18446744073709551615){p:List Nat}(hp:p∈pcs l):(∀x∈p,x<=18446744073709551615)/\p.length<=l.length:=by have hf:=z0o l;refine⟨fun x hx=>h x (by rw[<-hf];exact qqh.2 ⟨p,hp,hx⟩),?_⟩;rw[<-hf];obtain⟨a,b,e⟩:=List.append_of_mem hp;rw[e,qpm,qpw,qmv,qmv];omega
def IsDec(b:List Nat)(n:Int)(o:Option (List Nat)):Prop:=
 ∀l,o=some l↔((l.length:Int)=n/\l.length<=65536/\(∀x∈l,x<=18446744073709551615)/\z0p l=b)
end Go.Proofs.Y
namespace Go.Hm
open Go Go.RowKit
variable{P:Program}
theorem zlw{o:Oper}{a:Act}{w:World}{K:Act->World->Prop}{Q:Exit->Act->World->Prop}(ty:TypeId)(x y:Operand)(ho:o.op= .store ty x y)
 (g:Nat)(cells:Array Value)(hx:a.eval x= .pointer (some ⟨g,0,none⟩))(hy:a.eval y= .agg cells){t:TypeId}{old:Array Value}(hB:Blk w g t old)(hi:(P.info? ty).map (·.size)=some cells.size)
 (hold:old.size=cells.size)(h1:cells.all (·.oneCell')=true)
 (h:∀W,Blk W g t cells->w.grownBy W (some g)->K (a.put o.dst undef) W):o.wp P a w K Q:=by
 refine wp_store_row ty x y ho g cells hx hy t old hB hi hold h1 ?_;refine h _ ?_ ⟨rfl,rfl,rfl,by simp[World.setRow],fun k _ hne=>?_⟩
 ·unfold Blk at hB⊢
  simp[World.setRow,Array.getElem?_modify,hB]
 ·simp[World.setRow,Array.getElem?_modify]
  intro e;exact absurd (by rw[e]) hne
end Go.Hm
