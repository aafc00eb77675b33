import Derived.Laws.EntriesVeiled
import Derived.Test.YtbahbnbpmfgimaaGreatDoorBun22
set_option maxHeartbeats 4000000
set_option maxRecDepth 100000
namespace Go.Hm
open Go
theorem qbf(b:Bool):decide (boolN b=1)=b:=by cases b<;> decide
def qbg(s:List Nat)(p q:Nat × St):za2 × St:=((s,(p.1:Int),decide (q.1=1)),if 1<q.1 then none else q.2)
theorem z22(S:St):zvb S=qbg (zcv ((lenS 100 S).1:Int) (lenS 100 S).2).1 (zbn (zcv ((lenS 100 S).1:Int) (lenS 100 S).2).2) (zbn (zbn (zcv ((lenS 100 S).1:Int) (lenS 100 S).2).2).2):=rfl
theorem qg0(c:za2)(r:List Nat)(g:c.1.length<=100)(a:0<=c.2.1):zvb (some (z50 c++r))=(c,some r):=by
 obtain⟨nm,t,u⟩:=c;simp only at g a;obtain⟨t,rfl⟩:=qsu a;have b:z50 (nm,(t:Int),u)++r=vp nm.length++(nm++(t::boolN u::r)):=by simp[z50]
 have d:=zb9 nm.length (nm++(t::boolN u::r)) (m:=100) (by omega) (by omega);rw[z22,b,d];simp only;rw[zea];have e:zbn (some (t::boolN u::r))=(t,some (boolN u::r)):=rfl;have f:zbn (some (boolN u::r))=(boolN u,some r):=rfl;simp only[e,f];unfold qbg;simp only;rw[if_neg (by cases u<;> decide),qbf]
theorem zxs:∀(l:List za2) (r:List Nat),(∀c∈l,c.1.length<=100/\0<=c.2.1)->ze8 l.length (some (zlv l++r))=(l,some r)
 | [],r,_=>rfl
 |c::l,r,h=>by
  have hc:=h c (by simp);have e:zlv (c::l)++r=z50 c++(zlv l++r):=by simp[zlv]
  rw[e,qr1,ze8,qg0 c _ hc.1 hc.2,zxs l r (fun x a=>h x (by simp[a]))]
theorem qg1(l:List za2)(r:List Nat)(h:zcz l=0):getC (some (vp l.length++zlv l++r))=(l,some r):=by obtain⟨d,a,_⟩:=(zdv l).1 h;unfold getC;rw[qrc,zb9 l.length (zlv l++r) (m:=64) (by omega) (by omega)];simp only;rw[zxs l r (fun c b=>⟨(a c b).2.1,(a c b).2.2.1⟩)];rw[if_neg (by simp[h])]
theorem ztk{S:St}{b:Nat}{r:List Nat}(h:zbn S=(b,some r)):S=some (b::r):=by
 unfold zbn at h;split at h
 ·simp only[qqg,qqh] at h
  rw[h.1,h.2]
 ·simp at h
theorem qbh{S:St}{c:za2}{r:List Nat}(v:S.ok)(h:zvb S=(c,some r)):S=some (z50 c++r):=by
 rw[z22] at h;rcases zbx 100 S v with e|⟨N,b,e,z,_,s⟩
 ·rw[e] at h
  simp[zeh,zj6,qbg] at h
 ·rw[s] at h
  simp only at h;rcases zcl (N:Int) (some b) with f|⟨l,k,_,y,f⟩
  ·rw[f] at h
   simp[zj6,qbg] at h
  ·rw[f] at h
   injection k with k;subst k;simp only[qrn] at h;generalize g:zbn (some (b.drop N))=n at*;obtain⟨t,p⟩:=n;simp only at h;generalize i:zbn p=o at*;obtain⟨u,x⟩:=o;unfold qbg at h;simp only[qqg] at h;obtain⟨w,m⟩:=h;split at m
   ·cases m
   ·rename_i A
    subst m;have q:=ztk i;subst q;have d:=ztk g;injection d with d;rw[e];subst w;have a:(b.take N).length=N:=by rw[qqx];omega
    have j:boolN (decide (u=1))=u:=by
     have:u=0\/u=1:=by omega
     rcases this with rfl|rfl<;> rfl
    unfold z50;simp only[a,qrn,j];rw[qrc,qrc];congr 2
    rw[show [t,u]++r=b.drop N by rw[d];rfl,qtq]
theorem ztl:∀(n:Nat) {S:St} {l:List za2} {r:List Nat},S.ok->ze8 n S=(l,some r)->S=some (zlv l++r)
 |0,S,l,r,_,h=>by
  simp only[ze8,qqg] at h;obtain⟨rfl,rfl⟩:=h;rfl
 |n+1,S,l,r,b,h=>by
  rw[ze8] at h;have a:=z0l b;generalize g:zvb S=R at*;obtain⟨c,f⟩:=R;simp only at h a;generalize i:ze8 n f=d at*;obtain⟨k,j⟩:=d;simp only[qqg] at h;obtain⟨rfl,rfl⟩:=h;have e:=ztl n a i;subst e;rw[qbh b g];simp[zlv]
theorem zh4{S:St}{l:List za2}{r:List Nat}(c:S.ok)(h:getC S=(l,some r)):zcz l=0/\S=some (vp l.length++zlv l++r):=by
 unfold getC at h;rcases zbx 64 S c with a|⟨N,g,a,m,_,i⟩
 ·rw[a] at h
  simp[ze8] at h
 ·rw[i] at h
  simp only at h;split at h
  ·simp at h
  ·rename_i f
   have b:St.ok (some g):=qxp fun x k=>c _ a x (by simp[k])
   have e:=ztl N b h;injection e with e;have j:l.length=N:=by rw[<-zmx N (some g),h]
   rw[h] at f;refine⟨?_,?_⟩
   ·by_cases d:zcz l=0
    ·exact d
    ·exact absurd (.inr d) f
   ·rw[a,j,e,qrc]
theorem qbi{S:St}{l:List za2}(h:getC S=(l,none)):l=[]:=by
 unfold getC at h;split at h
 ·simp at h;exact h
 ·rename_i a
  rw[h] at a;simp at a
theorem qbj(n:Nat):∀x∈vp n,x<256:=by
 induction n using Nat.strongRecOn with
 |_ n c=>
  intro x a;by_cases b:n<128
  ·rw[zgj b] at a
   simp at a;omega
  ·rw[zgk b,qsm] at a
   rcases a with rfl|a
   ·omega
   ·exact c (n/128) (by omega) x a
theorem qbk(l:List za2)(h:∀x∈l,(∀z∈x.1,z<256)/\0<=x.2.1/\x.2.1<=3):∀x∈vp l.length++zlv l,x<256:=by
 intro x a;rcases qr5.1 a with a|a
 ·exact qbj _ x a
 ·unfold zlv at a
  obtain⟨y,c,a⟩:=qtj.1 a;obtain⟨b,d,e⟩:=h y c;unfold z50 at a;simp only[qr5,qsm,qur,or_false] at a;rcases a with(a|a)|a|a
  ·exact qbj _ x a
  ·exact b x a
  ·omega
  ·subst a;cases y.2.2<;> decide
end Go.Hm
namespace Go.Proofs.Y
open Go.RowKit Go.Hm
theorem z6l(a b:List Nat)(s:∀x∈a,x<256)(t:∀x∈b,x<256)(u:a.length<=9223372036854775806)(v:b.length<=9223372036854775806)(w:World):
 Calls Tryz.prog 201 #[.string (zaf a),.string (zaf b)] w (DrewPost (.int .i64 (shr a b)) w):=by
 have C:=zbq a;have D:=zbq b;go_enter Tryz.func201,Tryz.ntmps201
 go_wp2
 go_loopw [5] (fun n wr=>∃k m:Nat,n= .int .i64 (k:Int)/\k<=a.length/\k<=b.length/\a.take k=b.take k/\wr=w.drewN m) (fun n _=>a.length-(intOf n).toNat)
 case atStart=>exact⟨0,0,rfl,by omega,by omega,rfl,rfl⟩
 case round=>
  obtain⟨k,m,rfl,q,r,d,rfl⟩:=hrel;have c:=qis a b k q r d;have l:=qwk d;clear d;by_cases f:k=a.length
  ·have S:=qwk (c (.inl f))
   have i:decide (k<a.length)=false:=by simp;omega
   clear f c;go_wp2
   go_quiet (fail)
   go_wp2
   go_ret
   exact⟨by rw[S.out];rfl,_,zpv _ _ _⟩
  ·by_cases j:k=b.length
   ·have S:=qwk (c (.inr (.inl j)))
    have i:decide (k<a.length)=true:=by simp;omega
    have p:decide (k<b.length)=false:=by simp;omega
    clear f j c;go_wp2
    go_quiet (fail)
    go_wp2
    go_ret
    exact⟨by rw[S.out];rfl,_,zpv _ _ _⟩
   ·have z:=z7q qih a s k (by omega)
    have B:=z7q qih b t k (by omega);have i:decide (k<a.length)=true:=by simp;omega
    have p:decide (k<b.length)=true:=by simp;omega
    have g:=zac a k 0 (by omega);have h:=zac b k 0 (by omega);by_cases e:a.getD k 0=b.getD k 0
    ·have o:=qwk (show a.take (k+1)=b.take (k+1) by rw[g,h,l.out,e])
     rw[e] at z;clear g h e c;generalize b.getD k 0=y at*;go_wp2
     go_quiet (fail)
     go_wp2
     go_roundw
     case rel=>exact⟨k+1,_,by go_num,by omega,by omega,o.out,rfl⟩
     case measure=>simp[intOf];omega
    ·have S:=qwk (c (.inr (.inr e)))
     have A:(((a.getD k 0:Nat):Int)==((b.getD k 0:Nat):Int))=false:=by rw[beq_eq_false_iff_ne];omega
     clear g h e c;generalize a.getD k 0=x at*;generalize b.getD k 0=y at*;go_wp2
     go_quiet (fail)
     go_wp2
     go_ret
     exact⟨by rw[S.out];rfl,_,zpv _ _ _⟩
theorem qbx{w:World}{A:Option Addr}{n c:Nat}{L:List (List Nat)}(h:Reads w w.heap.size 1 A n (zsm L))(u:∀s∈L,s.length<=140737488351232)(G:n<=9223372036854775806):
 Calls Tryz.prog 200 #[.slice A n c] w (zd5 (.bool (qdz L)) w):=by
 obtain rfl:=h.lenT;by_cases p:65536<L.length
 ·have F:=qwk (qf4 p)
  go_enter Tryz.func200,Tryz.ntmps200
  go_wp2
  go_ret
  exact⟨by rw[F.out];rfl,rfl⟩
 ·have y:decide (65536<(L.length:Int))=false:=by simp;omega
  go_enter Tryz.func200,Tryz.ntmps200
  go_wp2
  go_loop [3,11] (fun a i=>∃k q:Nat,k<=L.length/\i= .int .i64 (k:Int)/\a= .int .i64 (q:Int)/\q<=16777216/\Hid (q=fsum (L.take k)/\ ∀s∈L.take k,s.length<=65536)) (fun _ i=>L.length-(intOf i).toNat)
  case atStart=>exact⟨0,0,by omega,rfl,rfl,by omega,qwk ⟨rfl,by simp⟩⟩
  case round=>
   obtain⟨k,q,E,rfl,rfl,I,H⟩:=hrel;by_cases b:k<L.length
   ·obtain⟨v,rfl,D,m⟩:=h.str b
    have J:=zpu u b;have T:=zac L k [] b;have g:=qwk (qf5 b);have e:=qwk (qf6 (l:=L) (k:=k+1));rw[T] at e;have o:=qwk T;clear T;generalize L.getD k []=s at*;have z:=zbq s;generalize d:s.length=ls at*;have j:=qwk d;clear d;by_cases r:65536<ls
    ·have F:=qwk (g.out r)
     clear g e;go_wp2
     go_ret
     exact⟨by rw[F.out];rfl,rfl⟩
    ·have B:decide (65536<(ls:Int))=false:=by simp;omega
     by_cases t:16777216<q+ls
     ·have F:=qwk (e.out (by rw[zwz,<-H.out.1,j.out];exact t))
      clear g e;go_wp2
      go_ret
      exact⟨by rw[F.out];rfl,rfl⟩
     ·have C:decide (16777216<(q:Int)+(ls:Int))=false:=by simp;omega
      go_wp2
      go_round
      case rel=>exact⟨k+1,q+ls,by omega,by go_num,by go_num,by omega,qwk ⟨by rw[o.out,zwz,<-H.out.1,j.out],fun x f=>by
       rw[o.out,qr5,qr6] at f;rcases f with f|rfl
       ·exact H.out.2 x f
       ·rw[j.out];omega⟩⟩
      case measure=>simp[intOf];omega
   ·obtain rfl:k=L.length:=by omega
    have F:=qwk (qf7 (l:=L) (by omega) (by have:=H.out.2;rwa[quw] at this) (by have:=H.out.1;rw[quw] at this;omega));go_wp2
    go_ret
    exact⟨by rw[F.out];rfl,rfl⟩
theorem qby{w:World}{A:Option Addr}{n c:Nat}{L:List (List Nat)}(h:Reads w w.heap.size 1 A n (zsm L))(S:∀s∈L,∀x∈s,x<256)(y:qdz L=true):
 Calls Tryz.prog 182 #[.slice A n c] w (OptB (some (zpb [] L)) w):=by
 obtain rfl:=h.lenT;obtain⟨hn,z,f⟩:=(zfe L).1 y;have F:=qwk (qbx (c:=c) h (fun s g=>by have:=z s g;omega) (by omega));rw[y] at F;have l:=qwk f;have HF:=qwk y;clear y f;go_enter Tryz.func182,Tryz.ntmps182
 go_wp2_with (go_at_call 200;refine F.out.mono ?_;rintro e w1 ⟨rfl,rfl⟩)
 go_loopw [4,5,14] (fun v a i wr=>∃(k:Nat) (A:Option Addr) (m c:Nat),i= .int .i64 (k:Int)/\k<=L.length/\a= .string (zaf (zsb [] (L.take k)))/\v= .slice A m c/\Own wr w.heap.size 5 (.slice A m c) (zar .u8 (zpb [] (L.take k)))/\Below w.heap.size w wr) (fun _ _ i _=>L.length-(intOf i).toNat)
 case atStart=>exact⟨0,_,_,_,rfl,by omega,rfl,rfl,qw0,qwd _ _⟩
 case round=>
  obtain⟨k,A5,m5,c5,rfl,hk,rfl,rfl,C,u⟩:=hrel;have z5:=u.size;by_cases b:k<L.length
  ·obtain⟨ad,rfl,hb,G⟩:=(h.below u).str b
   have M:=C.len;rw[zaa] at M;have V:=zux [] (L.take k) (fun s g=>z s (qro g));have X:=zwy L k;have q8:=l.out;rw[<-M,qqx] at V;have qm:m5<=20*65536+16777216:=by omega
   have T:=qwk (zac L k [] b);have a8:=zw0 (Q:=fun s=>∀x∈s,x<256) (a:=[]) (L.take k) (by simp) (fun s g=>S s (qro g));have al:=zw0 (Q:=fun s=>s.length<=65536) (a:=[]) (L.take k) (by simp) (fun s g=>z s (qro g));have Y:=zpu (Q:=fun s=>∀x∈s,x<256) S b;have sl:=zpu (Q:=fun s=>s.length<=65536) z b;have SN:=qwk (z99 [] (L.getD k []) (L.take k));have LS:=qwk (z5d [] (L.getD k []) (L.take k));clear M V X q8;generalize L.getD k []=s at*;generalize zsb [] (L.take k)=a at*;have k1:=zli a s;have k2:=zha a s;have z1:=zbq s;have SH:=qwk (z6l a s a8 Y (by omega) (by omega) wr);have FP:=qwk (show fpiece a s=vp (shr a s)++vp (s.length-shr a s)++s.drop (shr a s) from rfl);have i3:=qd5 qih s (shr a s) k2;have d8:∀x∈s.drop (shr a s),x<256:=fun x hx=>Y x (qte hx)
   have R:(s.drop (shr a s)).length<=65536:=by rw[qqw];omega
   have Z:=zae (n:=shr a s) (by omega);have v2:=zae (n:=s.length-shr a s) (by omega);have hq:(s.length:Int)-(shr a s:Int)=((s.length-shr a s:Nat):Int):=by omega
   generalize shr a s=j at*;generalize s.length-j=p at*;generalize s.drop j=r at*;have V1:=qwk Z;have V2:=qwk v2;have DL:=qwk R;clear Z v2 R;go_wp2_with (first
    |(go_at_call 201;refine SH.out.mono ?_;intro e w6 U;obtain⟨rfl,N⟩:=U.new;clear U
      have D:=zhn u N (qq0 _);have o6:=C.later N;have P6:=qwk (zdc none 0 0 [] j w6 qwy (by omega) (by omega)))
    |(go_at_call 111;(with_reducible refine P6.out.mono ?_);rintro e w7 ⟨A7,n7,c7,rfl,H,O⟩
      rw[qrr] at H;have q:=zhn D O (qq0 _);have o7:=o6.later O;have X:n7<=10:=by have:=H.len;rw[zaa] at this;have:=V1.out;omega
      have r7:=H.reads)
    |(refine zaq elB rfl (.tmp 21) (.tmp 24) rfl (W:=w) (B:=w.heap.size) o7 r7 rfl rfl q (qq0 _) (by have:=q.size;omega) (by omega) (by simp only[maxLen];omega) ?_
      intro A8 c8 w8 _ _ o8 _ E _;have P8:=qwk (zdc none 0 0 [] p w8 qwy (by omega) (by omega)))
    |(go_at_call 111;(with_reducible refine P8.out.mono ?_);rintro e w9 ⟨A9,n9,c9,rfl,I,P⟩
      rw[qrr] at I;have t:=zhn E P (qq0 _);have o9:=o8.later P;have q9:n9<=10:=by have:=I.len;rw[zaa] at this;have:=V2.out;omega
      have r9:=I.reads)
    |(refine zaq elB rfl (.tmp 26) (.tmp 32) rfl (W:=w) (B:=w.heap.size) o9 r9 rfl rfl t (qq0 _) (by have:=t.size;omega) (by omega) (by simp only[maxLen];omega) ?_
      intro a0 a2 a4 _ _ J _ d _)
    |(refine zer elB qih rfl (.tmp 34) (.tmp 37) rfl (W:=w) (B:=w.heap.size) J d8 rfl rfl d (qq0 _) (by have:=d.size;omega) (by have:=DL.out;omega) ?_
      intro a1 a3 a5 _ _ K _ o))
   go_roundw
   case rel=>exact⟨k+1,_,_,_,by go_num,by omega,by rw[T.out,LS.out],rfl,by rw[T.out,SN.out,FP.out,<-qrc,<-qrc];exact K,o⟩
   case measure=>simp[intOf];omega
  ·obtain rfl:k=L.length:=by omega
   rw[quw] at C;go_wp2
   go_ret2
   exact⟨_,_,_,rfl,C,u⟩
theorem qhd{w:World}{A:Option Addr}{n c:Nat}{L:List (List Nat)}(h:Reads w w.heap.size 1 A n (zsm L))(b:∀s∈L,∀x∈s,x<256)(d:∀s∈L,s.length<=140737488351232)(f:n<=9223372036854775806):
 Calls Tryz.prog 182 #[.slice A n c] w (OptB (zz6 L) w):=by
 unfold zz6;by_cases a:qdz L=true
 ·rw[if_pos a]
  exact qby h b a
 ·rw[if_neg a]
  have F:=qwk (qbx (c:=c) h d f);rw[qvb.2 a] at F;clear a;go_enter Tryz.func182,Tryz.ntmps182
  go_wp2_with (go_at_call 200;refine F.out.mono ?_;rintro e g ⟨rfl,rfl⟩)
  go_ret2
  exact⟨rfl,qwd _ _⟩
end Go.Proofs.Y
namespace Go.Hm
open Go Go.RowKit
theorem qi6{w:World}{g:Nat}{ty:TypeId}{x y a b:Value}(h:Blk w g ty #[x,y]):Blk ((w.setCell ⟨g,0,none⟩ a).setCell ⟨g,1,none⟩ b) g ty #[a,b]:=by simpa using((h.set_ 0 a).set_ 1 b)
theorem zrl{g i:Nat}(u:Value)(w:World):Far g w (w.setCell ⟨g,i,none⟩ u):=
 ⟨rfl,rfl,rfl,by simp[World.setCell],fun k _ a=>qwc _ _ _ _ (by rintro rfl;exact a rfl)⟩
theorem z26{g:Nat}(a b:Value)(w:World):Far g w ((w.setCell ⟨g,0,none⟩ a).setCell ⟨g,1,none⟩ b):=qw8 (zrl a w) (zrl b _)
end Go.Hm
namespace Go.Proofs.Y
open Go.RowKit Go.Hm
theorem qno{w:World}{x y:Int}{a b:Nat}(h:z5g x y a b)(c: -9223372036854775808<=x/\x<=9223372036854775807)(d: -9223372036854775808<=y/\y<=9223372036854775807):
 Calls Tryz.prog 212 #[.complex .f64 a b] w (zap (.agg #[.int .i64 x,.int .i64 y]) w):=by
 have i:=fun w:World=>run_convert_float_int (P:=Tryz.prog) w 264 3 .f64 .i64 a _ (by kernel_rfl) (by kernel_rfl) (zz9 h.1 c)
 have j:=fun w:World=>run_convert_float_int (P:=Tryz.prog) w 264 3 .f64 .i64 b _ (by kernel_rfl) (by kernel_rfl) (zz9 h.2 d)
 have e:New w (w.alloc (.cells #[.int .i64 x,.int .i64 y] 73)):=(qwd _ _).alloc (qq0 _) _;obtain⟨f,g⟩:=zb3 (qw1 w 73 #[.int .i64 x,.int .i64 y]);clear h c d;go_enter Tryz.func212,Tryz.ntmps212
 go_wp2
 exact bodyPost_ret (v:= .agg #[.int .i64 x,.int .i64 y]) (by simp[results,Tryz.results212,go_sem,f,g]) rfl ⟨rfl,e⟩
theorem qhe{w:World}{x y u v:Int}(hx: -2097152<=x/\x<=2097152)(hy: -2097152<=y/\y<=2097152)(hu: -2097152<=u/\u<=2097152)(hv: -2097152<=v/\v<=2097152):
 Calls Tryz.prog 208 #[.agg #[.int .i64 x,.int .i64 y],.agg #[.int .i64 u,.int .i64 v]] w (zap (.agg #[.int .i64 (x-u),.int .i64 (y-v)]) w):=by
 obtain⟨j,f⟩:∃W,W=((w.alloc (.cells #[.int .i64 x,.int .i64 y] 73)).alloc (.cells #[.int .i64 u,.int .i64 v] 73)).alloc (.cells #[.int .i64 0,.int .i64 0] 73):=⟨_,rfl⟩;have J:New w j:=by rw[f];exact(((qwd _ _).alloc (qq0 _) _).alloc (by simp) _).alloc (by simp;omega) _
 have O:(w.alloc (.cells #[.int .i64 x,.int .i64 y] 73)).heap.size=w.heap.size+1:=by simp
 have Q:((w.alloc (.cells #[.int .i64 x,.int .i64 y] 73)).alloc (.cells #[.int .i64 u,.int .i64 v] 73)).heap.size=w.heap.size+1+1:=by simp
 have A:Blk j w.heap.size 73 #[.int .i64 x,.int .i64 y]:=by rw[f];exact((qw1 _ _ _).alloc _).alloc _
 have B:Blk j (w.heap.size+1) 73 #[.int .i64 u,.int .i64 v]:=by rw[f,<-O];exact(qw1 _ _ _).alloc _
 have C:Blk j (w.heap.size+1+1) 73 #[.int .i64 0,.int .i64 0]:=by rw[f,<-Q];exact qw1 _ _ _
 have F:=qwk (fun(W:World) (o:Far (w.heap.size+1+1) j W)=>qtc (zb3 (A.grown o (by simp;omega))) (zb3 (B.grown o (by simp))));have D:=qwk C;have S:=qwk f;have R:=qwk J;have E:=qwk (fun(W:World)=>zno (w:=W) (x:=x) (y:=y) (by omega) (by omega));have G:=qwk (fun(W:World)=>zno (w:=W) (x:=u) (y:=v) (by omega) (by omega));have H:=qwk (fun(W:World) (a b c d:Nat) (Y:z5g x y a b) (Z:z5g u v c d)=>show∃l k,cSumBits .sub .f64 a b c d=some (l,k)/\ ∀W:World,Calls Tryz.prog 212 #[.complex .f64 l k] W (zap (.agg #[.int .i64 (x-u),.int .i64 (y-v)]) W) by obtain⟨l,k,r,s⟩:=qgc Y Z (by omega) (by omega);exact⟨l,k,r,fun W=>qno s (by omega) (by omega)⟩)
 generalize x-u=t at*;generalize y-v=z at*;clear A B C f J O Q hx hy hu hv;go_enter Tryz.func208,Tryz.ntmps208
 go_wp2_with fail
 rw[<-S.out];refine zav (Far (w.heap.size+1+1)) [(true,0),(true,2),(false,1),(false,3),(true,4),(false,5),(false,6)]
  (qw7 _) qw8 (by kernel_rfl) (by kernel_rfl) (by kernel_rfl) (by kernel_rfl) ?_
 have i:=qw6 j;iterate 2 (
  refine zas rfl rfl (v:=?_) (fun W o=>?_) ?_;rotate_left
  ·obtain⟨⟨x0,x1⟩,⟨y0,y1⟩⟩:=F.out W (qw8 (qw9 i) o)
   go_simp<;> with_reducible rfl
  simp only[Act.put,qta,qs1,qtb])
 refine za7 rfl rfl (fun K h=>?_);go_simp
 (with_reducible refine(E.out _).mono ?_)
 rintro e w1 ⟨a,b,rfl,p,L⟩;refine h _ _ (qw9 L) ?_;clear h;replace i:=qw5 i L;refine za7 rfl rfl (fun K h=>?_);go_simp
 (with_reducible refine(G.out _).mono ?_)
 rintro e w2 ⟨c,d,rfl,q,M⟩;refine h _ _ (qw9 M) ?_;clear h;replace i:=qw5 i M;obtain⟨l,k,r,s⟩:=H.out w2 a b c d p q;have T:=qwk s;have m:=fun w:World=>run_complex_sum (P:=Tryz.prog) w .sub (.inr rfl) 262 .f64 a b c d l k r
 clear r s p q E G H;refine zas rfl rfl (v:=?_) (fun W o=>?_) ?_;rotate_left
 ·go_simp<;> with_reducible rfl
 simp only[Act.put,qta,qs1,qtb];clear m;refine za7 rfl rfl (fun K h=>?_);go_simp
 (with_reducible refine(T.out _).mono ?_)
 rintro e w3 ⟨rfl,N⟩;refine h _ _ (qw9 N) ?_;clear h;replace i:=qw5 i N;have n:=D.out.below i D.out.lt;obtain⟨z0,z1⟩:=zb3 n;have V:=n.frozen 0;have X:=n.frozen 1;have I:=qwk (qi6 n (a:= .int .i64 t) (b:= .int .i64 z));have hF:=z26 (g:=w.heap.size+1+1) (.int .i64 t) (.int .i64 z) w3;clear n;refine za7 rfl rfl (fun K h=>?_);go_simp
 refine h _ _ hF ?_;clear h z0 z1 V X;refine zdr ?_;obtain⟨s0,s1⟩:=zb3 I.out;have U:=qxb R.out (qw8 (qw9 i) hF) (by omega);clear hF I;go_wp2
 exact bodyPost_ret (v:= .agg #[.int .i64 t,.int .i64 z]) (by simp[results,Tryz.results208,go_sem,s0,s1]) rfl ⟨rfl,U⟩
end Go.Proofs.Y
namespace Go.Hm
open Go Go.RowKit
theorem z0t(l:List (Int × Int))(p:Int × Int):zdy (l++[p])=zdy l++[.int .i64 p.1,.int .i64 p.2]:=by simp[zdy]
theorem z6p{h:Int × Int}{l:List (Int × Int)}{k:Nat}(b:k<l.length):
 zgw h (l.drop k)=if inBox (l.getD k (0,0)).1 (l.getD k (0,0)).2 then(zgw (l.getD k (0,0)) (l.drop (k+1))).map (((l.getD k (0,0)).1-h.1,(l.getD k (0,0)).2-h.2):: ·) else none:=by
 rw[zky l k (0,0) b,zgw]
theorem zx2{α:Type}{o:Option (List α)}{x:α}{b:List α}:(o.map (x:: ·)).map (b++ ·)=o.map ((b++[x])++ ·):=by cases o<;> simp
section
variable{P:Program}{ops:Array Oper}{rest:List Oper}{o:Oper}{a:Act}{Q:Exit->Act->World->Prop}
theorem z6q{w:World}{t e:TypeId}{z:Value}{sz b:Nat}(E:ElT P t e z sz b)(j:o.guard=none)(q p:Operand)(D:o.op=Op.makeSlice t q p)
 {W:World}{B:Nat}{kl kc:IntKind}{L C:Int}(n:Nat)(A:a.eval q= .int kl L)(x:a.eval p= .int kc C)(u:L=0)(r:C=(n:Int))(v:Below B W w)(d:B<=w.heap.size)
 (F:n*b<=140737488355328)(hm:n<=maxLen)
 (h:∀w',w'.ownsRow w.heap.size e sz (.slice (some ⟨w.heap.size,0,none⟩) 0 n) 0 []->w.grownBy w' none->Below B W w'->w'.heap.size=w.heap.size+1->wpList P ops Q rest (a.put o.dst (.slice (some ⟨w.heap.size,0,none⟩) 0 n)) w'):
 wpList P ops Q (o::rest) a w:=by
 obtain⟨i,y,m,l,f⟩:=info_parts E.hi;subst u r;have k:(n:Int)<=9223372036854775807:=by have h:=hm;simp only[maxLen] at h;omega
 have g:(i.bytes:Int)*(n:Int)<=281474976710656:=by
  have h:((i.bytes*n:Nat):Int)<=281474976710656:=by rw[f,qrl];omega
  rwa[qrm] at h
 have c:=run_make (P:=P) w t e i z E.ht y m kl kc 0 (n:Int) (by omega) (by omega) g k;rw[qrn,l] at c;refine wpList_plain j fun K s=>?_
 unfold Oper.wp;simp[execOp,D,A,x,c,Result.andThen];refine s _ _ (h _ ?_ (qwf _ _ _) (v.alloc d _) (by simp));exact⟨by simp,.inr ⟨_,n,_,rfl,qq0 _,heap_alloc_new w _,qq1 _,hm,by simp[size_madeCells],by simp⟩⟩
end
end Go.Hm
namespace Go.Proofs.Y
open Go.RowKit Go.Hm
theorem qpc:ElT Tryz.prog 251 73 (.agg #[.int .i64 0,.int .i64 0]) 2 16:=⟨by kernel_rfl,by kernel_rfl,rfl,by omega⟩
def qi7(o:Option (List (Int × Int)))(w:World)(e:Ending)(w':World):Prop:=
 ∃A n c,e= .returned (.slice A n c)/\w'.ownsRow w.heap.size 73 2 (.slice A n c) n (zdy (o.getD []))/\New w w'
theorem z6r{w:World}{A:Option Addr}{n c:Nat}{l:List (Int × Int)}(h:Reads w w.heap.size 2 A n (zdy l))(hn:n<=1000000):
 Calls Tryz.prog 194 #[.slice A n c] w (qi7 (zgw (0,0) l) w):=by
 obtain rfl:=h.lenP;have Z:=qwk (show∀z,(zgw (0,0) (l.drop 0)).map ([]++ ·)=z->zgw (0,0) l=z by intro z hz;rw[<-hz];cases hw:zgw (0,0) l<;> simp[hw])
 generalize zgw (0,0) l=O at*;go_enter Tryz.func194,Tryz.ntmps194
 go_wp2_with (refine z6q qpc rfl _ _ rfl (W:=w) (B:=w.heap.size) l.length rfl rfl rfl rfl (qwd _ _) (qq0 _) (by omega) (by simp only[maxLen];omega) ?_;intro w1 o1 g1 b1 z1)
 obtain⟨W2,j⟩:∃W,W=w1.alloc (.cells #[.int .i64 0,.int .i64 0] 73):=⟨_,rfl⟩;have B2:Blk W2 (w.heap.size+1) 73 #[.int .i64 0,.int .i64 0]:=by rw[j,<-z1];exact qw1 _ _ _
 have b2:New w W2:=by rw[j];exact b1.alloc (by omega) _
 have o2:W2.ownsRow w.heap.size 73 2 (.slice (some ⟨w.heap.size,0,none⟩) 0 l.length) 0 (zdy []):=by rw[j];exact qqk o1 _
 have a0:=qwk B2;have HR:=qwk h;have Z2:=qwk z1;rw[z1] at*;have a4:=qwk j;clear j B2 h o1 g1 b1 z1;go_wp2
 rw[<-a4.out];go_loopw [3,12] (fun v i wr=>∃(k:Nat) (A:Option Addr) (c:Nat) (d:List (Int × Int)) (p q:Int),k<=l.length/\i= .int .i64 (k:Int)/\v= .slice A k c/\Hid (wr.ownsRow w.heap.size 73 2 (.slice A k c) k (zdy d))/\Hid ((Value.slice A k c).ownBlock≠some (w.heap.size+1))/\Hid (Blk wr (w.heap.size+1) 73 #[.int .i64 p,.int .i64 q])/\New w wr/\Hid (inBox p q=true)/\Hid ((zgw (p,q) (l.drop k)).map (d++ ·)=O)) (fun _ i _=>l.length-(intOf i).toNat)
 case atStart=>exact⟨0,_,_,[],0,0,by omega,rfl,rfl,qwk o2,qwk (by simp[Value.ownBlock]),a0,b2,qwk rfl,qwk (Z.out _ rfl).symm⟩
 case round=>
  obtain⟨k,A1,c1,d,p,q,hk,rfl,rfl,o,N,B,b,I,E⟩:=hrel;by_cases J:k<l.length
  ·have L:=z6p (h:=(p,q)) J
   have V:=qwk (E.out.symm.trans (congrArg (fun z=>z.map (d++ ·)) L));obtain⟨ad,rfl,a7,x0,x1⟩:=(qxj HR.out b).pair2 J;have K:l.getD k (0,0)=((l.getD k (0,0)).1,(l.getD k (0,0)).2):=rfl;rw[K] at V;generalize(l.getD k (0,0)).1=x at*;generalize(l.getD k (0,0)).2=y at*;obtain⟨Y,m⟩:∃W,W=wr.alloc (.cells #[.int .i64 x,.int .i64 y] 73):=⟨_,rfl⟩;have b3:New wr Y:=by rw[m];exact(qwd _ _).alloc (qq0 _) _
   have X:Blk Y wr.heap.size 73 #[.int .i64 x,.int .i64 y]:=by rw[m];exact qw1 _ _ _
   have U:=B.out.below b3 B.out.lt;have F3:=qwk (fun(W:World) (H:New Y W)=>qtc (zb3 (X.below H X.lt)) (zb3 (U.below H U.lt)));obtain⟨⟨M,R⟩,S,T⟩:=F3.out Y (qw4 _);have D:=qwk m;have r:=qwk X;have C:=qwk U;have WT:=qwk (fun W:World=>zsx (w:=W) x y);rw[m] at M R S T;clear L m X U K;go_wp2_with fail
   rw[<-D.out]
   (with_reducible refine(WT.out _).mono ?_)
   rintro e w4 ⟨rfl,b4⟩;clear x0 x1 M R S T WT D;obtain⟨⟨M,R⟩,S,T⟩:=F3.out w4 b4;cases hnb:inBox x y with
   |false=>
    have hO:O=none:=by rw[V.out,hnb];simp
    have HO:=qwk hO;have bE:=qw5 b (qw5 b3 b4);clear hO hnb;go_wp2
    go_ret
    exact⟨_,_,_,rfl,by rw[HO.out];exact zd8,bE⟩
   |true=>
    have nb:=inBox_iff.1 hnb;have ib:=inBox_iff.1 I.out;have PA:=qwk (fun W:World=>qhe (w:=W) (x:=x) (y:=y) (u:=p) (v:=q) (by omega) (by omega) (by omega) (by omega));have a2:=qwk hnb;have E3:=qwk (show(zgw (x,y) (l.drop (k+1))).map ((d++[(x-p,y-q)])++ ·)=O by rw[V.out,hnb,<-zx2];simp);clear nb ib hnb V E;go_wp2_with fail
    (with_reducible refine(PA.out _).mono ?_)
    rintro e w5 ⟨rfl,b5⟩;have f:=qw5 b4 b5;clear M R S T PA;generalize x-p=px at*;generalize y-q=py at*;have o5:=zba o.out (qw5 b3 f);have F:=qw5 b (qw5 b3 f);have z0:=F.size;have a8:w.heap.size+1<wr.heap.size:=B.out.lt;have b0:wr.heap.size<w5.heap.size:=by have:=r.out.lt;have:=f.size;omega
    obtain⟨W6,a5⟩:∃W,W=w5.alloc (.cells #[.int .i64 px,.int .i64 py] 73):=⟨_,rfl⟩;have T5:=r.out.below f r.out.lt;have B5:=C.out.below f C.out.lt;have a3:=qwk T5;have a1:=qwk B5;clear T5 B5 a5;have NT:(Value.slice A1 k c1).ownBlock≠some wr.heap.size:=by intro e;have:=(qqj o.out _ e).2;omega
    have t:=qwk (fun(W:World) (H:w5.grownBy W (Value.slice A1 k c1).ownBlock)=>qtc (a3.out.grown H (fun e=>NT e.symm)) (a1.out.grown H (fun e=>N.out e.symm)));clear NT
    go_wp2_with (refine zd9 qpc rfl (.tmp 19) (.tmp 23) rfl (W:=w) (B:=w.heap.size) (base:=w.heap.size) (n:=k) o5 rfl rfl F (qq0 _) z0 rfl (by simp[Value.oneCell']) (by omega) (by simp only[maxLen];omega) ?_
                 intro A' c' s _ _ o' G b' a9 a6;obtain⟨M,R⟩:=zb3 (t.out s G).1;obtain⟨S,T⟩:=zb3 (t.out s G).2;have f0:=(t.out s G).2.frozen 0;have f1:=(t.out s G).2.frozen 1)
    have N8:(Value.slice A' (k+1) c').ownBlock≠some (w.heap.size+1):=by
     rcases a6 with e1|⟨gg,e1,e2⟩
     ·rw[e1];exact N.out
     ·rw[e1];simp;omega
    have g6:=z26 (g:=w.heap.size+1) (.int .i64 x) (.int .i64 y) s;have o9:=qqi o' g6 (.inr N8);have B9:=qi6 (t.out s G).2 (a:= .int .i64 x) (b:= .int .i64 y);have b9:=qxb b' g6 (by omega);go_roundw
    case rel=>exact⟨k+1,A',c',d++[(px,py)],x,y,by omega,by go_num,rfl,qwk (by rw[z0t];exact o9),qwk N8,qwk B9,b9,a2,E3⟩
    case measure=>simp[intOf];omega
  ·obtain rfl:k=l.length:=by omega
   have HO:=qwk (show O=some d by rw[<-E.out,qvi,zgw];simp);clear E;go_wp2
   go_ret
   exact⟨_,_,_,rfl,by rw[HO.out];exact o.out,b⟩
def Rd(w:World)(gr gc:Nat)(a:List Nat)(room:Int):Prop:=Blk w gr 261 #[.pointer (some ⟨gc,0,none⟩),.string (zaf a),.int .i64 room]
theorem Rd.cells{w:World}{gr c:Nat}{a:List Nat}{b:Int}(h:Rd w gr c a b):w.cell? ⟨gr,0,none⟩=some (.pointer (some ⟨c,0,none⟩))/\w.cell? ⟨gr,1,none⟩=some (.string (zaf a))/\w.cell? ⟨gr,2,none⟩=some (.int .i64 b):=
 ⟨by rw[Blk.cell h 0];rfl,by rw[Blk.cell h 1];rfl,by rw[Blk.cell h 2];rfl⟩
theorem Rd.far{w w':World}{gr c:Nat}{a:List Nat}{b:Int}(h:Rd w gr c a b)(e:Far c w w')(d:gr≠c):Rd w' gr c a b:=Blk.grown h e (by simpa using d)
theorem Rd.below{w w':World}{gr c:Nat}{a:List Nat}{b:Int}(h:Rd w gr c a b)(d:New w w'):Rd w' gr c a b:=Blk.below h d (Blk.lt h)
theorem qlo:ElT Tryz.prog 76 75 (.agg #[.bool false,.int .i64 0,.string ⟨#[]⟩,.int .i64 0,.int .i64 0]) 5 48:=⟨by kernel_rfl,by kernel_rfl,rfl,by omega⟩
def qb5(l:List zab)(w:World)(e:Ending)(w':World):Prop:=∃A n c A2 n2 c2,e= .returned (.tuple #[.slice A n c,.slice A2 n2 c2])/\
 Own w' w.heap.size 5 (.slice A n c) (zar .u8 (zcb l))/\w'.ownsRow w.heap.size 75 5 (.slice A2 n2 c2) n2 (recs zay (zcc l))/\New w w'
theorem qlp(a:List Nat)(x y:Nat)(b:List Nat){k:Nat}(h:a.length=k):(a++x::b).set k y=(a++[y])++b:=by subst h;rw[qsy _ _ (qq0 _)];simp
theorem zsi{w:World}{A:Option Addr}{n c:Nat}{l:List zab}(h:Reads w w.heap.size 5 A n (recs zay l))(hn:n<=65536):
 Calls Tryz.prog 126 #[.slice A n c] w (qb5 l w):=by
 obtain rfl:=h.lenCell;have SP:=qwk (ztb hn);have MW:=qwk (zmn l);go_enter Tryz.func126,Tryz.ntmps126
 go_wp2_with (refine zcf elW rfl (.tmp 11) (.tmp 11) rfl (W:=w) (B:=w.heap.size) l.length l.length rfl rfl rfl rfl (qq0 _) (qwd _ _) (qq0 _) rfl (by omega) (by simp only[maxLen];omega) ?_
              intro w1 o1 _ Z s1)
 go_loopw [5,15] (fun a i wr=>∃(k:Nat) (M:Option Addr) (r S:Nat),i= .int .i64 (k:Int)/\k<=l.length/\a= .slice M r S/\r<=k/\Own wr w.heap.size 138 (.slice (some ⟨w.heap.size,0,none⟩) l.length l.length) (zar .u64 (zcn (l.take k)++List.replicate (l.length-k) 0))/\
  wr.ownsRow w.heap.size 75 5 (.slice M r S) r (recs zay (zcc (l.take k)))/\Below w.heap.size w wr) (fun _ i _=>l.length-(intOf i).toNat)
 case atStart=>exact⟨0,none,0,0,rfl,by omega,rfl,by omega,by simpa[zcn,zb5] using o1,by simpa[zcc,recs] using(zd8 (w:=w1) (sz:=5)),Z⟩
 case round=>
  clear o1 Z s1;obtain⟨k,M,r,S,rfl,C,rfl,a4,o,u,b⟩:=hrel;by_cases m:k<l.length
  ·obtain⟨ad,rfl,_,d0,d1,d2,d3,d4⟩:=(qxj h b).cell5 m
   have f:=qwk (z5w l k m);have g:=qwk (qa4 l k m);generalize l.getD k (false,0,[],0,0)=x at*;obtain⟨T,U,V,X,Y⟩:=x;simp only at d0 d1 d2 d3 d4;have E:List.replicate (l.length-k) (0:Nat)=0::List.replicate (l.length-(k+1)) 0:=by rw[show l.length-k=(l.length-(k+1))+1 by omega];rfl
   rw[E] at o;have D:(zcn (l.take k)).length=k:=by rw[zff,qqx];omega
   have i1:(k:Int)<(l.length:Int):=by omega
   obtain⟨H,d⟩:∃W,W=wr.alloc (.cells #[.bool T,.int .i64 U,.string (zaf V),.int .i64 X,.int .i64 Y] 75):=⟨_,rfl⟩;have R:New wr H:=by rw[d];exact(qwd _ _).alloc (qq0 _) _
   have G:Blk H wr.heap.size 75 #[.bool T,.int .i64 U,.string (zaf V),.int .i64 X,.int .i64 Y]:=by rw[d];exact qw1 _ _ _
   have K:=o.later R;have L:=zba u R;have p:=zhn b R (qq0 _);obtain⟨p0,p1,p2,p3,p4⟩:=zc3 G;have N:=qwk d;cases T with
   |true=>
    have f:=f.out;have g:=g.out;simp only[qd0,if_true,qra] at f g;have f:=qwk f;have g:=qwk g;rw[d] at p0 p1 p2 p3 p4;clear d o u b;go_wp2_with fail
    rw[<-N.out];go_roundw
    case rel=>exact⟨k+1,_,_,_,by go_num,by omega,rfl,by omega,by rw[f.out,qrc];exact K,by rw[g.out];exact L,p⟩
    case measure=>simp[intOf];omega
   |false=>
    have f:=f.out;have g:=g.out;simp only[qd0,qvr,if_false] at f g;have f:=qwk f;have g:=qwk g;obtain⟨a2,a3,hc,hf,q⟩:=K.num0 (i:=k) m;have F:=q 1;rw[qlp _ _ _ _ D] at F;have y:(zcn (l.take k)++0::List.replicate (l.length-(k+1)) 0).getD k 0=0:=by rw[qsh,qtp (by omega),D,qsz];rfl
    rw[y] at hc;rw[d] at p0 p1 p2 p3 p4 hc hf;obtain⟨t,j⟩:∃W,W=H.setCell ⟨w.heap.size,k,none⟩ (.int .u64 1):=⟨_,rfl⟩;have J:H.grownBy t (some w.heap.size):=by rw[j];exact⟨rfl,rfl,rfl,by simp[World.setCell],fun k _ C=>qwc _ _ _ _ (by simpa using C)⟩
    obtain⟨a0,Q⟩:=K.row w.heap.size rfl;have u3:=qqi L J (.inr (zat L Q (by decide)));have B3:=G.grown J (by have:=qw2 G Q (by decide);simpa using this);have v:Below w.heap.size w t:=p.grown J p.size (fun k C=>by injection C with C;omega);have F:Own t w.heap.size 138 (.slice (some ⟨w.heap.size,0,none⟩) l.length l.length) (zar .u64 (zcn (l.take k)++[1]++List.replicate (l.length-(k+1)) 0)):=by rw[j];exact F
    have s:=qwk (show t=(wr.alloc (.cells #[.bool false,.int .i64 U,.string (zaf V),.int .i64 X,.int .i64 Y] 75)).setCell ⟨w.heap.size,k,none⟩ (.int .u64 1) by rw[j,d]);obtain⟨q0,q1,q2,q3,q4⟩:=zc3 B3;rw[s.out] at q0 q1 q2 q3 q4;obtain⟨a1,M4⟩:=F.row w.heap.size rfl;have z3:=v.size;have O:=qwk (show wr.heap.size+1=t.heap.size by rw[j,d];simp[World.setCell]);clear d j q y o u b K L G p Q J;go_wp2_with (first
     |(rw[<-s.out]
       refine zd9 qlo rfl (.tmp 26) (.tmp 28) rfl (W:=w) (B:=w.heap.size) (base:=w.heap.size) (n:=r) u3 rfl (by rw[<-O.out];rfl) v (qq0 _) z3 rfl (by simp[Value.oneCell']) (by omega) (by simp only[maxLen];omega) ?_;intro A5 c5 w5 _ _ u5 g5 I _ _))
    go_roundw
    case rel=>exact⟨k+1,_,_,_,by go_num,by omega,rfl,by omega,by rw[f.out];exact F.kept g5 (.inr (fun e=>zat u3 M4 (by decide) e.symm)),by rw[g.out,zbe];exact u5,I⟩
    case measure=>simp[intOf];omega
  ·obtain rfl:k=l.length:=by omega
   rw[qsz,qup,qra,quw] at o;rw[quw] at u;have P:=zo7 (c:=l.length) 1 o.reads MW.out.2 (by omega) (by omega) (by omega);rw[SP.out] at P;have P:=qwk P;clear m o;go_wp2_with fail
   refine P.out.mono ?_;rintro e w5 ⟨A5,n5,c5,rfl,o5,I⟩;go_wp2
   go_ret2
   have z:=b.size;exact⟨_,_,_,_,_,_,rfl,o5.base_le z,zba u I,zhn b I (qq0 _)⟩
theorem zm7{α:Type}{l:List α}{k:Nat}(d:α)(h:k<l.length):l.getD k d∈l:=by rw[qsh,qqt h];exact qrf h
end Go.Proofs.Y
namespace Go.Hm
open Go Go.RowKit
def sl{α:Type}(L:List α)(lo hi:Nat):List α:=(L.drop lo).take (hi-lo)
theorem qje{α:Type}{L:List α}{a hi:Nat}(h:hi<=L.length):(sl L a hi).length=hi-a:=by unfold sl;rw[qqx,qqw];omega
theorem Digs.sl{L:List (List Nat)}(h:Digs L)(a hi:Nat):Digs (sl L a hi):=(h.drop a).take _
def evIn(f t a b:Nat):Ev->Prop
 | .among lo hi=>a<=lo/\lo<=hi/\hi<=b/\(lo=hi->a=b)/\(lo=hi\/(f<=lo/\hi<=t))
 | .beside lo hi=>a<=lo/\lo<hi/\hi<=b
 | .node=>True
theorem evIn.more{f t a b c b':Nat}(i:c<=a)(j:b<=b')(k:a<b){e:Ev}(h:evIn f t a b e):evIn f t c b' e:=by
 cases e with
 |among g d=>obtain⟨x,y,z,u,r⟩:=h;exact⟨by omega,y,by omega,by omega,r⟩
 |beside g d=>obtain⟨x,y,z⟩:=h;exact⟨by omega,y,by omega⟩
 |node=>trivial
structure JS where
 made:List (List Nat)
 rest:List (List Nat)
 frames:List (List Nat)
open Go Go.RowKit
def KeepT(t:TypeId)(w w':World):Prop:=w.heap.size<=w'.heap.size/\ ∀b cs,Blk w b t cs->Blk w' b t cs
theorem KeepT.refl(t:TypeId)(w:World):KeepT t w w:=⟨qq0 _,fun _ _ h=>h⟩
theorem KeepT.trans{t:TypeId}{w c d:World}(h:KeepT t w c)(k:KeepT t c d):KeepT t w d:=⟨qqs h.1 k.1,fun b a e=>k.2 b a (h.2 b a e)⟩
theorem KeepT.new{t:TypeId}{w w':World}(h:New w w'):KeepT t w w':=⟨h.size,fun _ _ a=>a.below h a.lt⟩
end Go.Hm
namespace Go.Proofs.Y
open Go.RowKit Go.Hm
abbrev tW:TypeId:=125
def OvPost(R:List Ev->World->Prop)(es:List Ev)(w:World)(e:Ending)(w':World):Prop:=e= .returned (.tuple #[])/\R es w'/\KeepT tW w w'
theorem OvPost.after{R:List Ev->World->Prop}{a:List Ev}{w b:World}(k:KeepT tW w b){e:Ending}{w':World}(h:OvPost R a b e w'):OvPost R a w e w':=⟨h.1,h.2.1,k.trans h.2.2⟩
end Go.Proofs.Y
namespace Go.Hm
open Go Go.RowKit
theorem KeepT.set_{t t':TypeId}{w:World}{b:Nat}{cs:Array Value}(h:Blk w b t' cs)(a:t'≠t)(i:Nat)(u:Value):KeepT t w (w.setCell ⟨b,i,none⟩ u):=
 ⟨by simp,fun f d c=>c.far (p:=⟨b,i,none⟩) (fun e=>qw2 h c a e.symm) u⟩
end Go.Hm
namespace Go.Proofs.Y
open Go.RowKit Go.Hm
theorem zr0{α:Type}{l:List α}{k:Nat}(d:α)(h:k<l.length):l.getD k d∈l:=by rw[qsh,qqt h];exact qrf h
end Go.Proofs.Y
