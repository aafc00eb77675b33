/- Merged. -/
import Derived.Test.YtbahbnbpmfgimaaGreatDoorBun6
set_option maxHeartbeats 2000000
namespace Go.Hm
theorem z23(n:Nat)(h0:n≠0)(h:n<18446744073709551616):Lib.bitLen (n ||| 1)=Lib.bitLen n:=by
 have e:(n ||| 1)/2=n/2:=by rw[Nat.or_div_two];simp
 have hlt:n ||| 1<2^64:=qqj h (by omega);have hne:n ||| 1≠0:=by intro e0;rw[e0] at e;have:=Nat.right_le_or (n:=n) (m:=1);omega
 rw[Lib.bitLen_half _ hne hlt,Lib.bitLen_half n h0 h,e]
theorem qhf:∀(k n:Nat),n<2^k->n≠0->n<18446744073709551616->(Lib.bitLen n+6)/7=(vp n).length:=by
 intro k;induction k using Nat.strongRecOn with
 |ind k ih=>
  intro n hk h0 h;by_cases hn:n<128
  ·have h1:=Lib.bitLen_le n 7 (by omega) hn
   have h2:=Lib.bitLen_half n h0 h;rw[zf2 hn];simp only[qqp];omega
  ·have e:Lib.bitLen n=7+Lib.bitLen (n/128):=Lib.bitLen_shift 7 n (by omega) h
   have hk7:7<k:=by
    refine Nat.lt_of_not_le fun hle=>?_
    have:=qn4 (n:=2) (by omega) hle;omega
   have hd:n/128<2^(k-7):=by refine qns ?_;rw[show(128:Nat)=2^7 from rfl,<-qol,show 7+(k-7)=k by omega];exact hk
   have:=ih (k-7) (by omega) (n/128) hd (by omega) (by omega);rw[zf3 hn,qnu,<-this,e];omega
theorem qhg(n:Nat)(h:n<18446744073709551616):(Lib.bitLen (n ||| 1)+6)/7=(vp n).length:=by
 by_cases h0:n=0
 ·subst h0;rw[zf2 (by omega)];decide
 ·rw[z23 n h0 h,qhf 64 n h h0 h]
theorem qcv(a:Nat)(h:a<18446744073709551616):bits .xor .u64 (a:Int) 0=a:=by have:=u64_xor_nat a 0 h (by omega);simpa using this
theorem qcw(a:Nat)(h:a<18446744073709551616):bits .xor .u64 (a:Int) 18446744073709551615=((18446744073709551615-a:Nat):Int):=by show IntKind.u64.wrap ((BitVec.ofInt 64 (a:Int) ^^^ BitVec.ofInt 64 18446744073709551615).toNat:Int)=_;rw[show BitVec.ofInt 64 18446744073709551615=BitVec.allOnes 64 from by decide,BitVec.xor_allOnes,BitVec.toNat_not,ofInt_u64 a h,IntKind.wrap_u64];omega
theorem qcx(a:Nat)(h:a<9223372036854775808):bits .xor .i64 (a:Int) 0=a:=by show IntKind.i64.wrap ((BitVec.ofInt 64 (a:Int) ^^^ BitVec.ofInt 64 0).toNat:Int)=_;rw[show BitVec.ofInt 64 0=0#64 from by decide,BitVec.xor_zero,ofInt_u64 a (by omega),IntKind.wrap_i64];omega
theorem qcy(a:Nat)(h:a<9223372036854775808):bits .xor .i64 (a:Int) (-1)= -(a:Int)-1:=by show IntKind.i64.wrap ((BitVec.ofInt 64 (a:Int) ^^^ BitVec.ofInt 64 (-1)).toNat:Int)=_;rw[show BitVec.ofInt 64 (-1)=BitVec.allOnes 64 from by decide,BitVec.xor_allOnes,BitVec.toNat_not,ofInt_u64 a (by omega),IntKind.wrap_i64];omega
def zig(x:Int):Nat:=if x<0 then(-(2*x)-1).toNat else(2*x).toNat
def zag(n:Nat):Int:=if n%2=0 then((n/2:Nat):Int) else-((n/2:Nat):Int)-1
theorem z64(x:Int):zag (zig x)=x:=by unfold zig zag;split<;> split<;> omega
theorem z65(n:Nat):zig (zag n)=n:=by unfold zig zag;split<;> split<;> omega
end Go.Hm
namespace Go.Proofs.Y
open Go.RowKit Go.Hm
def qjj(n:Nat)(w:World)(e:Ending)(w':World):Prop:=e= .returned (.int .i64 ((vp n).length:Int))/\w=w'
theorem z0k(n:Nat)(w:World)(h:n<18446744073709551616):Calls Tryz.prog 132 #[.int .u64 n] w (qjj n w):=by
 have e:bits .or .u64 (n:Int) 1=((n ||| 1:Nat):Int):=by have:=u64_or_nat n 1 h (by omega);simpa using this
 have hlt:n ||| 1<2^64:=qqj h (by omega);have hv:=qhg n h;have h10:=zap h;have hb:=Lib.bitLen_le (n ||| 1) 64 (by omega) hlt;go_enter Tryz.func132,Tryz.ntmps132
 go_wp2_with (first
  |(go_at_call 120;refine(bits_Len64 ((n ||| 1:Nat):Int) _ (by omega) (by omega)).mono ?_;rintro e w' ⟨rfl,rfl⟩))
 go_ret
 exact⟨by rw[<-hv];go_num,rfl⟩
def qjk(w:World)(l:List Nat)(N:Nat)(nv v:Value)(wr:World):Prop:=∃N' D A c,nv= .int .u64 ((N':Nat):Int)/\N'<=N/\D.length+(vp N').length<=l.length+10/\v= .slice A D.length c/\D++vp N'=l++vp N/\Own wr w.heap.size 5 (.slice A D.length c) (zan .u8 D)/\Below w.heap.size w wr
set_option maxRecDepth 100000 in
theorem zc1(A:Option Addr)(n c:Nat)(l:List Nat)(N:Nat)(w:World)(hr:Reads w w.heap.size 1 A n (zan .u8 l))(hn:n<=140737488355200)(hN:N<=18446744073709551615):
 Calls Tryz.prog 111 #[.slice A n c,.int .u64 N] w (zcm (l++vp N) w):=by
 obtain rfl:l.length=n:=by have:=hr.1;rw[zaa] at this;omega
 have hsz:=zap (n:=N) (by omega);go_enter Tryz.func111,Tryz.ntmps111
 go_wp2_with (first
  |(go_at_call 132;refine(z0k N _ (by omega)).mono ?_;rintro e w' ⟨rfl,rfl⟩)
  |(refine zca elB rfl (.tmp 7) (.tmp 12) rfl (W:=w) (B:=w.heap.size) l.length (l.length+(vp N).length) rfl rfl rfl (by simp) (by omega) (Below.refl _ _) (qmt _) rfl (by omega) (by simp only[maxLen];omega) ?_
    intro w1 hown1 hg1 hb1 hs1)
  |(refine zoa elB rfl (.tmp 14) (.tmp 15) rfl (W:=w) (B:=w.heap.size) hown1 (hr.grown_far hg1 (by simp)) rfl rfl l.length (Nat.min_self _) hb1 (qmt _) (zci _ _) ?_
    intro w2 hown2 hg2 hb2 hs2))
 go_frame
 go_loopw [1,5] (qjk w l N) (fun nv _ _=>(intOf nv).toNat)
 case atStart=>
  refine⟨N,l,_,_,rfl,qmt _,by omega,rfl,rfl,?_,hb2⟩;rw[qnn (by rw[zaa];omega),qqe (by simp),qm3] at hown2;exact hown2
 case round=>
  obtain⟨N',D,A',c',rfl,hN',hD,rfl,hDN,hown,hb⟩:=hrel;have hb0:=hb.size;by_cases hlt:N'<128
  ·go_wp2_with (first
    |(refine zcj elB rfl (.tmp 27) (.tmp 30) rfl (W:=w) (B:=w.heap.size) hown rfl rfl N' rfl hb (qmt _) (by omega) (by omega) (by simp only[maxLen];omega) ?_
      intro A3 c3 w3 _ _ hown3 hg3 hb3 _ _))
   go_ret
   rw[zf2 hlt] at hDN;rw[hDN] at hown3;have hl':D.length+1=(l++vp N).length:=by rw[<-hDN];simp
   rw[hl'] at hown3⊢;exact⟨_,_,_,rfl,hown3,hb3⟩
  ·have hu:=qk8 N'
   have Hu:=Hz hu;clear hu;have hv:=zf3 hlt;have Hv:=Hz hv;clear hv;go_wp2_with (first
    |(refine zcj elB rfl (.tmp 19) (.tmp 23) rfl (W:=w) (B:=w.heap.size) hown rfl rfl (N'%128+128) (by rw[Hu.out]) hb (qmt _) (by omega) (by omega) (by simp only[maxLen];omega) ?_
      intro A3 c3 w3 _ _ hown3 hg3 hb3 _ _))
   go_roundw
   case rel=>
    have hv':=Hv.out;rw[hv',qnu] at hD;exact⟨N'/128,D++[N'%128+128],A3,c3,by go_num,by omega,by simp;omega,by simp,by rw[<-hDN,hv'];simp,by simpa using hown3,hb3⟩
   case measure=>simp[intOf];omega
def z66(v:Value)(w:World)(e:Ending)(w':World):Prop:=e= .returned v/\w=w'
theorem zot(x:Int)(w:World)(h: -9223372036854775808<=x)(h1:x<=9223372036854775807):Calls Tryz.prog 167 #[.int .i64 x] w (z66 (.int .u64 (zig x:Int)) w):=by
 have e:bits .xor .u64 (IntKind.u64.wrap (IntKind.u64.wrap x*2)) (IntKind.u64.wrap (x/9223372036854775808))=(zig x:Int):=by
  simp only[IntKind.wrap_u64];by_cases hx:x<0
  ·rw[show(x/9223372036854775808)%18446744073709551616=18446744073709551615 from by omega,
    show x%18446744073709551616*2%18446744073709551616=((18446744073709551616+2*x).toNat:Int) from by omega,qcw _ (by omega)]
   simp only[zig,if_pos hx];omega
  ·rw[show(x/9223372036854775808)%18446744073709551616=0 from by omega,
    show x%18446744073709551616*2%18446744073709551616=((2*x).toNat:Int) from by omega,qcv _ (by omega)]
   simp only[zig,if_neg hx]
 go_enter Tryz.func167,Tryz.ntmps167
 go_wp2
 go_ret
 exact⟨rfl,rfl⟩
theorem z67(x:Nat)(w:World)(h:x<18446744073709551616):Calls Tryz.prog 177 #[.int .u64 (x:Int)] w (z66 (.int .i64 (zag x)) w):=by
 have e1:bits .and .u64 (x:Int) 1=((x%2:Nat):Int):=by have:=u64_and_nat x 1 h (by omega);rw[nat_mask1] at this;simpa using this
 have e:bits .xor .i64 ((x:Int)/2) (-((x:Int)%2))=zag x:=by
  by_cases hx:x%2=0
  ·rw[show(-((x:Int)%2))=0 from by omega,show((x:Int)/2)=((x/2:Nat):Int) from by omega,qcx _ (by omega)]
   simp only[zag,if_pos hx]
  ·rw[show(-((x:Int)%2))= -1 from by omega,show((x:Int)/2)=((x/2:Nat):Int) from by omega,qcy _ (by omega)]
   simp only[zag,if_neg hx]
 go_enter Tryz.func177,Tryz.ntmps177
 go_wp2
 go_ret
 exact⟨rfl,rfl⟩
end Go.Proofs.Y
namespace Go.Hm
theorem zoz{N b:Nat}{r s:List Nat}(h:b::s=vp N++r)(hb:b<128):N=b/\r=s:=by
 by_cases hN:N<128
 ·rw[zf2 hN] at h
  simp only[qnt,qnk,qmg] at h;exact⟨h.1.symm,h.2.symm⟩
 ·rw[zf3 hN] at h
  simp only[qnt,qmg] at h;omega
theorem zo0{N b:Nat}{r s:List Nat}(h:b::s=vp N++r)(hb:128<=b):N%128+128=b/\0<N/128/\s=vp (N/128)++r:=by
 by_cases hN:N<128
 ·rw[zf2 hN] at h
  simp only[qnt,qnk,qmg] at h;omega
 ·rw[zf3 hN] at h
  simp only[qnt,qmg] at h;exact⟨h.1.symm,by omega,h.2⟩
theorem qhm{b N:Nat}(hb:128<=b)(h8:b<256)(hN:0<N):b::vp N=vp (b-128+128*N):=by
 rw[zf3 (n:=b-128+128*N) (by omega)];congr 1
 ·omega
 ·congr 1;omega
theorem z28:∀(k M N:Nat) (r s:List Nat),M<=k->vp M++r=vp N++s->M=N/\r=s:=by
 intro k;induction k using Nat.strongRecOn with
 |ind k ih=>
  intro M N r s hk h;by_cases hM:M<128
  ·rw[zf2 hM] at h
   have:=zoz h hM;exact⟨this.1.symm,this.2.symm⟩
  ·rw[zf3 hM] at h
   have h1:=zo0 h (by omega);have h2:=ih (M/128) (by omega) _ _ _ _ (qmt _) h1.2.2;exact⟨by omega,h2.2⟩
def VIn(l:List Nat)(k v:Nat)(rl:List Nat):Prop:=
 v<128^k/\(∀N r,l=vp N++r-> ∃N',N=v+128^k*N'/\(k=0\/0<N')/\rl=vp N'++r)/\
 (∀N r,(k=0\/0<N)->rl=vp N++r->l=vp (v+128^k*N)++r)
theorem VIn.zero(l:List Nat):VIn l 0 0 l:=⟨by simp,fun N r h=>⟨N,by simp,.inl rfl,h⟩,fun N r _ h=>by simpa using h⟩
theorem VIn.step{l rl:List Nat}{k v b:Nat}(h:VIn l k v (b::rl))(hb:128<=b)(h8:b<256):VIn l (k+1) (v+128^k*(b-128)) rl:=by
 obtain⟨h1,h2,h3⟩:=h;have hp:128^(k+1)=128^k*128:=qnq ..;have hm:128^k*(b-128)<=128^k*127:=qpt _ (by omega);refine⟨by omega,fun N r e=>?_,fun N r hN e=>?_⟩
 ·obtain⟨N',e1,e2,e3⟩:=h2 N r e
  obtain⟨f1,f2,f3⟩:=zo0 e3 hb;refine⟨N'/128,?_,.inr f2,f3⟩;rw[e1,hp,qoq,qmk,<-qnv];congr 2
  omega
 ·have hN':0<N:=by rcases hN with hN|hN<;> omega
  have:=h3 (b-128+128*N) r (.inr (by omega)) (by rw[e,<-qhm hb h8 hN',qnt]);rw[this,qnv,hp,qoq,qmk]
theorem VIn.done{l rl:List Nat}{k v b:Nat}(h:VIn l k v (b::rl))(hb:b<128)(hk:k=0\/0<b):l=vp (v+128^k*b)++rl:=
 h.2.2 b rl hk (by rw[zf2 hb];rfl)
theorem VIn.not_zero{l rl:List Nat}{k v:Nat}(h:VIn l k v (0::rl))(hk:0<k):∀N r,l=vp N++r->18446744073709551616<=N:=by intro N r e;obtain⟨N',_,e2,e3⟩:=h.2.1 N r e;have:=zoz e3 (by omega);omega
theorem VIn.not_nil{l:List Nat}{k v:Nat}(h:VIn l k v []):∀N r,l=vp N++r->18446744073709551616<=N:=by intro N r e;obtain⟨N',_,_,e3⟩:=h.2.1 N r e;have:=zug N';have:=congrArg List.length e3;simp at this;omega
theorem VIn.not_big{l rl:List Nat}{v b:Nat}(h:VIn l 9 v (b::rl))(hb:1<b):∀N r,l=vp N++r->18446744073709551616<=N:=by
 intro N r e;obtain⟨N',e1,e2,e3⟩:=h.2.1 N r e;by_cases hlt:b<128
 ·have:=(zoz e3 hlt).1
  omega
 ·have:=zo0 e3 (by omega)
  omega
theorem qfp(k:Nat):(128:Nat)^k=2^(7*k):=by rw[qoi]
theorem VIn.fits{k v b:Nat}(hv:v<128^k)(hb:b<128)(hk:k<=8\/(k<=9/\b<=1)):v+128^k*b<18446744073709551616:=by
 rcases hk with hk|⟨hk,hb1⟩
 ·have h1:(128:Nat)^k<=128^8:=qn4 (by omega) hk
  have h2:128^k*b<=128^8*b:=qms _ h1;omega
 ·have h1:(128:Nat)^k<=128^9:=qn4 (by omega) hk
  have h2:128^k*b<=128^9*b:=qms _ h1;omega
theorem z7k(b:Nat)(h:b<256):bits .andNot .u8 (b:Int) 128=((b%128:Nat):Int):=by have:=u8_andNot_nat b 128 h (by omega);rw[show 255-128=127 from rfl,nat_mask7] at this;simpa using this
theorem qhn{k v b:Nat}(hv:v<128^k)(hb:b<128)(hk:k<=8\/(k<=9/\b<=1)):
 bits .or .u64 (v:Int) ((b:Int)*2^(7*k)%18446744073709551616)=((v+128^k*b:Nat):Int):=by
 have hf:=VIn.fits hv hb hk;have e2:(b:Int)*2^(7*k)=((b*2^(7*k):Nat):Int):=by simp
 have e0:128^k*b=b*2^(7*k):=by rw[qfp,qne]
 rw[e2,show(((b*2^(7*k):Nat):Int)%18446744073709551616)=((b*2^(7*k):Nat):Int) from qom (by omega) (by omega),
  u64_or_nat v (b*2^(7*k)) (by omega) (by omega),qn5,zq9 b v (7*k) (by rw[<-qfp];exact hv),e0,qn7]
theorem z0p{k v b:Nat}(hv:v<128^k)(h8:b<256)(hk:k<=8\/(k<=9/\b%128<=1)):
 bits .or .u64 (v:Int) (IntKind.u64.wrap (IntKind.u64.wrap (bits .andNot .u8 (b:Int) 128)*2^(7*k)))=((v+128^k*(b%128):Nat):Int):=by
 rw[z7k b h8,IntKind.wrap_u64,IntKind.wrap_u64,show(((b%128:Nat):Int)%18446744073709551616)=((b%128:Nat):Int) from by omega];exact qhn hv (by omega) hk
end Go.Hm
namespace Go.Proofs.Y
open Go.RowKit Go.Hm
def qho(g:Nat)(l:List Nat)(w:World)(e:Ending)(w':World):Prop:=
 (∃N r,l=vp N++r/\N<18446744073709551616/\e= .returned (.int .u64 (N:Int))/\Cur w' g r false/\w.grownBy w' (some g))\/
 ((∀N r,l=vp N++r->18446744073709551616<=N)/\e= .returned (.int .u64 0)/\Cur w' g [] true/\w.grownBy w' (some g))
def qlw(g:Nat)(l:List Nat)(w:World)(a:Act)(w':World):Prop:=
 ∃(u1 u2 u3 u4 u5 u6 u7 u8 u9 u10 u11 u12 u13 u14 u15 u16 u17 u18 u19 u20 u21 u22 u23 u24 u25 u26 u27 u28 u29 u30 u31 u32 u33 u34 u35 u36 u37 u38 u39 u40 u41:Value) (rl:List Nat) (bad:Bool),a={tmps:= #[.pointer (some ⟨g,0,none⟩),u1,u2,u3,u4,u5,u6,u7,u8,u9,u10,u11,u12,u13,u14,u15,u16,u17,u18,u19,u20,u21,u22,u23,u24,u25,u26,u27,u28,u29,u30,u31,u32,u33,u34,u35,u36,u37,u38,u39,u40,u41],defers:=[]}/\Cur w' g rl bad/\w.grownBy w' (some g)/\(∀N r,l=vp N++r->18446744073709551616<=N)
theorem Cur.lt8{w:World}{g:Nat}{l:List Nat}{bad:Bool}(h:Cur w g l bad):∀x∈l,x<256:=by obtain⟨A,c,_,_,_,_,h5,_⟩:=h;exact h5
set_option maxRecDepth 100000 in
theorem z7l{w:World}{g:Nat}{l:List Nat}(h:Cur w g l false)(h8:∀x∈l,x<256):
 Calls Tryz.prog 117 #[.pointer (some ⟨g,0,none⟩)] w (qho g l w):=by
 go_enter Tryz.func117,Tryz.ntmps117
 go_wp2
 refine wp_scope_jumps 0 (qlw g l w) (fun _ _=>0) rfl ?_ ?_
 ·go_wp2
  go_loopw [3,4] (fun v i wr=>∃(k x:Nat) (rl:List Nat),i= .int .i64 ((7*k:Nat):Int)/\k<=9/\v= .int .u64 (x:Int)/\VIn l k x rl/\(∀y∈rl,y<256)/\Cur wr g rl false/\w.grownBy wr (some g)) (fun _ i _=>100-(intOf i).toNat)
  case atStart=>exact⟨0,0,l,rfl,by omega,rfl,VIn.zero l,h8,h,Far.refl g w⟩
  case round=>
   obtain⟨k,x,rl,rfl,hk,rfl,hV,h8',hC,hg⟩:=hrel;have HV:=Hz hV;cases rl with
   |nil=>
    have B:=Hz (znm hC (.inr (by simp)));go_wp2_with (first
     |(go_at_call 137;refine B.out.mono ?_;rintro e w1 ⟨rfl,C1,g1⟩
       have hB:=Hz (zj7 C1))
     |(go_at_call 98;refine hB.out.mono ?_;rintro e w2 ⟨rfl,rfl⟩)
     |go_step3)
    exact⟨rfl,_,_,_,_,_,_,_,_,_,_,_,_,_,_,_,_,_,_,_,_,_,_,_,_,_,_,_,_,_,_,_,_,_,_,_,_,_,_,_,_,_,_,_,rfl,C1,Far.trans hg g1,HV.out.not_nil⟩
   |cons b rl=>
    have hb8:b<256:=h8' b (by simp);have B:=Hz (z0h hC);have hx:=hV.1;clear hV;by_cases hz:0<k/\b=0
    ·obtain⟨hz,rfl⟩:=hz
     go_wp2_with (first
      |(go_at_call 137;refine B.out.mono ?_;rintro e w1 ⟨rfl,C1,g1⟩
        have hB:=Hz (zj7 C1))
      |(go_at_call 98;refine hB.out.mono ?_;rintro e w2 ⟨rfl,rfl⟩)
      |go_step3)
     all_goals first
      |(exfalso;omega)
      |exact⟨rfl,_,_,_,_,_,_,_,_,_,_,_,_,_,_,_,_,_,_,_,_,_,_,_,_,_,_,_,_,_,_,_,_,_,_,_,_,_,_,_,_,_,_,_,rfl,C1,Far.trans hg g1,HV.out.not_zero hz⟩
    ·by_cases h9:k=9
     ·subst h9
      by_cases hb1:1<b
      ·go_wp2_with (first
       |(go_at_call 137;refine B.out.mono ?_;rintro e w1 ⟨rfl,C1,g1⟩
         have hB:=Hz (zj7 C1))
       |(go_at_call 98;refine hB.out.mono ?_;rintro e w2 ⟨rfl,rfl⟩)
       |go_step3)
       all_goals first
        |(exfalso;omega)
        |exact⟨rfl,_,_,_,_,_,_,_,_,_,_,_,_,_,_,_,_,_,_,_,_,_,_,_,_,_,_,_,_,_,_,_,_,_,_,_,_,_,_,_,_,_,_,_,rfl,C1,Far.trans hg g1,HV.out.not_big hb1⟩
      ·have HO:=z0p hx hb8 (.inr ⟨by omega,by omega⟩)
       rw[show(2:Int)^(7*9)=9223372036854775808 from by decide,show b%128=b from by omega] at HO;go_wp2_with (first
        |(go_at_call 137;refine B.out.mono ?_;rintro e w1 ⟨rfl,C1,g1⟩
          have hB:=Hz (zj7 C1))
        |(go_at_call 98;refine hB.out.mono ?_;rintro e w2 ⟨rfl,rfl⟩)
        |go_step3)
       all_goals first
        |(rename_i hq;exfalso;rcases hq with hq|hq;(simp at hq;omega);omega)
        |(simp only[Exit.jump];go_ret
          exact .inl ⟨_,_,HV.out.done (by omega) (.inl (by omega)),VIn.fits hx (by omega) (.inr ⟨by omega,by omega⟩),by simp,C1,Far.trans hg g1⟩)
        |(simp only[Exit.jump];go_ret
          exact .inl ⟨_,_,HV.out.done (by omega) (.inr (by omega)),VIn.fits hx (by omega) (.inr ⟨by omega,by omega⟩),by simp,C1,Far.trans hg g1⟩)
     ·have HO:=z0p hx hb8 (.inl (by omega))
      go_wp2_with (first
       |(go_at_call 137;refine B.out.mono ?_;rintro e w1 ⟨rfl,C1,g1⟩
         have hB:=Hz (zj7 C1))
       |(go_at_call 98;refine hB.out.mono ?_;rintro e w2 ⟨rfl,rfl⟩)
       |go_step3)
      all_goals first
       |(exfalso;omega)
       |(simp only[Exit.jump];go_ret
         exact .inl ⟨x+128^k*b,rl,HV.out.done (by omega) (by omega),VIn.fits hx (by omega) (.inl (by omega)),by rw[show((b:Int)%128)=(b:Int) from by omega];simp,C1,Far.trans hg g1⟩)
       |(go_roundw
         case rel=>exact⟨k+1,x+128^k*(b-128),rl,by go_num,by omega,by rw[show((b:Int)%128)=((b-128:Nat):Int) from by omega];simp,HV.out.step (by omega) hb8,fun y hy=>h8' y (qqf _ hy),C1,Far.trans hg g1⟩
         case measure=>simp[intOf];omega)
 ·rintro a' w' ⟨u,u,u,u,u,u,u,u,u,u,u,u,u,u,u,u,u,u,u,u,u,u,u,u,u,u,u,u,u,u,u,u,u,u,u,u,u,u,u,u,u,rl,bad,rfl,C1,hg,hno⟩
  have hF:=Hz (zht C1);go_wp2_with (go_at_call 116;refine hF.out.mono ?_;rintro e w2 ⟨rfl,C2,g2⟩)
  simp only[Exit.jump];go_ret
  exact .inr ⟨hno,rfl,C2,Far.trans hg g2⟩
set_option maxRecDepth 100000 in
theorem qhp{w:World}{g:Nat}{l:List Nat}{bad:Bool}(h:Cur w g l bad)(hn:bad=true\/l.length<1):
 Calls Tryz.prog 117 #[.pointer (some ⟨g,0,none⟩)] w (zdb (.returned (.int .u64 0)) g [] true w):=by
 have B:=Hz (znm h hn);clear hn;go_enter Tryz.func117,Tryz.ntmps117
 go_wp2
 refine wp_scope_jumps 0 (qlw g [] w) (fun _ _=>0) rfl ?_ ?_
 ·go_wp2
  refine wp_loop_rounds 1 ?_;rw[rounds_succ];go_wp2_with (first
   |(go_at_call 137;refine B.out.mono ?_;rintro e w1 ⟨rfl,C1,g1⟩
     have hB:=Hz (zj7 C1))
   |(go_at_call 98;refine hB.out.mono ?_;rintro e w2 ⟨rfl,rfl⟩)
   |go_step3)
  exact⟨rfl,_,_,_,_,_,_,_,_,_,_,_,_,_,_,_,_,_,_,_,_,_,_,_,_,_,_,_,_,_,_,_,_,_,_,_,_,_,_,_,_,_,_,_,rfl,C1,g1,(VIn.zero []).not_nil⟩
 ·rintro a' w' ⟨u,u,u,u,u,u,u,u,u,u,u,u,u,u,u,u,u,u,u,u,u,u,u,u,u,u,u,u,u,u,u,u,u,u,u,u,u,u,u,u,u,rl,bad',rfl,C1,hg,hno⟩
  have hF:=Hz (zht C1);go_wp2_with (go_at_call 116;refine hF.out.mono ?_;rintro e w2 ⟨rfl,C2,g2⟩)
  simp only[Exit.jump];go_ret
  exact⟨rfl,C2,Far.trans hg g2⟩
theorem zyh{w:World}{g N:Nat}{r:List Nat}(h:Cur w g (vp N++r) false)(hN:N<18446744073709551616):
 Calls Tryz.prog 117 #[.pointer (some ⟨g,0,none⟩)] w (zdb (.returned (.int .u64 (N:Int))) g r false w):=
 (z7l h h.lt8).mono fun e w' hp=>by
  rcases hp with⟨M,s,h1,h2,h3,h4,h5⟩|⟨h1,_⟩
  ·obtain⟨rfl,rfl⟩:=z28 N N M r s (qmt _) h1
   exact⟨h3,h4,h5⟩
  ·have:=h1 N r rfl
   omega
theorem z7m{w:World}{g:Nat}{l:List Nat}{bad:Bool}(h:Cur w g l bad)(hN:bad=true\/ ∀N r,l=vp N++r->18446744073709551616<=N):
 Calls Tryz.prog 117 #[.pointer (some ⟨g,0,none⟩)] w (zdb (.returned (.int .u64 0)) g [] true w):=by
 cases bad with
 |true=>exact qhp h (.inl rfl)
 |false=>
  refine(z7l h h.lt8).mono fun e w' hp=>?_
  rcases hp with⟨M,s,h1,h2,h3,h4,h5⟩|⟨h1,h2,h3,h4⟩
  ·rcases hN with hN|hN
   ·simp at hN
   ·have:=hN M s h1
    omega
  ·exact⟨h2,h3,h4⟩
theorem qhq{w:World}{g N:Nat}{r:List Nat}{m:Int}(h:Cur w g (vp N++r) false)(hN:(N:Int)<=m)(hm:m<=9223372036854775807):
 Calls Tryz.prog 97 #[.pointer (some ⟨g,0,none⟩),.int .i64 m] w (zdb (.returned (.int .i64 (N:Int))) g r false w):=by
 have G:=Hz (zyh h (by omega));go_enter Tryz.func97,Tryz.ntmps97
 go_wp2_with (go_at_call 117;refine G.out.mono ?_;rintro e w1 ⟨rfl,C1,g1⟩)
 go_ret
 exact⟨rfl,C1,g1⟩
theorem qjr{w:World}{g:Nat}{l:List Nat}{bad:Bool}{m:Int}(h:Cur w g l bad)(hN:bad=true\/ ∀N r,l=vp N++r->m<N)(hm0: -9223372036854775808<=m)(hm:m<=9223372036854775807):
 Calls Tryz.prog 97 #[.pointer (some ⟨g,0,none⟩),.int .i64 m] w (zdb (.returned (.int .i64 0)) g [] true w):=by
 by_cases hG:bad=true\/ ∀N r,l=vp N++r->18446744073709551616<=N
 ·have G:=Hz (z7m h hG)
  clear hG hN;go_enter Tryz.func97,Tryz.ntmps97
  by_cases hm1:m<0
  ·go_wp2_with (first
    |(go_at_call 117;refine G.out.mono ?_;rintro e w1 ⟨rfl,C1,g1⟩
      have hF:=Hz (zht C1))
    |(go_at_call 116;refine hF.out.mono ?_;rintro e w2 ⟨rfl,C2,g2⟩))
   go_ret
   exact⟨rfl,C2,Far.trans g1 g2⟩
  ·go_wp2_with (first
    |(go_at_call 117;refine G.out.mono ?_;rintro e w1 ⟨rfl,C1,g1⟩))
   go_ret
   exact⟨rfl,C1,g1⟩
 ·simp only[not_or,Classical.not_forall] at hG
  obtain⟨hb,N,r,rfl,hlt⟩:=hG;have hb':bad=false:=by simpa using hb
  subst hb';have hmN:m<N:=by rcases hN with hN|hN;exact absurd hN hb;exact hN N r rfl
  have G:=Hz (zyh h (by omega));clear hN hb;go_enter Tryz.func97,Tryz.ntmps97
  by_cases hm1:m<0
  ·go_wp2_with (first
    |(go_at_call 117;refine G.out.mono ?_;rintro e w1 ⟨rfl,C1,g1⟩
      have hF:=Hz (zht C1))
    |(go_at_call 116;refine hF.out.mono ?_;rintro e w2 ⟨rfl,C2,g2⟩))
   go_ret
   exact⟨rfl,C2,Far.trans g1 g2⟩
  ·go_wp2_with (first
    |(go_at_call 117;refine G.out.mono ?_;rintro e w1 ⟨rfl,C1,g1⟩
      have hF:=Hz (zht C1))
    |(go_at_call 116;refine hF.out.mono ?_;rintro e w2 ⟨rfl,C2,g2⟩))
   go_ret
   exact⟨rfl,C2,Far.trans g1 g2⟩
end Go.Proofs.Y
namespace Go.Hm
open Go Go.RowKit
abbrev nm(l:List zbb)(i:Nat):List Nat:=(l.getD i ([],0,false)).1
def zma(a:List zbb)(s:List Nat):Prop:=s.length=0\/100<s.length\/s∈a.map (·.1)
instance(a:List zbb)(s:List Nat):Decidable (zma a s):=by unfold zma;exact inferInstance
def zlh(a:List zbb)(s:List Nat)(t:Int):Int:=if zma a s then 1 else if 0<=t/\t<=3 then 0 else 3
def zgs(a:List zbb):List zbb->Int
 | []=>0
 |c::l=>if zlh a c.1 c.2.1=0 then zgs (a++[c]) l else zlh a c.1 c.2.1
def zcy(l:List zbb):Int:=if 64<l.length then 4 else zgs [] l
theorem zyy{l:List zbb}(h:64<l.length):zcy l=4:=by rw[zcy,if_pos h]
theorem z3w{l:List zbb}(h: ¬64<l.length):zcy l=zgs (l.take 0) (l.drop 0):=by rw[zcy,if_neg h];rfl
theorem zyz(l:List zbb)(k:Nat)(h:k<l.length):zgs (l.take k) (l.drop k)=if zlh (l.take k) (nm l k) (l.getD k ([],0,false)).2.1=0 then zgs (l.take (k+1)) (l.drop (k+1)) else zlh (l.take k) (nm l k) (l.getD k ([],0,false)).2.1:=by rw[zjt l k ([],0,false) h,zgs,zad l k ([],0,false) h]
theorem z3x(l:List zbb):zgs (l.take l.length) (l.drop l.length)=0:=by rw[qq3];rfl
theorem zvw{l:List zbb}{s:List Nat}{k:Nat}(hk:k<l.length):s∈(l.take (k+1)).map (·.1)↔s∈(l.take k).map (·.1)\/nm l k=s:=by rw[zad l k ([],0,false) hk,qp6,qny];simp[eq_comm,nm]
end Go.Hm
namespace Go.Proofs.Y
open Go.RowKit Go.Hm
theorem ql5(a b:List Nat)(ha:∀x∈a,x<256)(hb:∀x∈b,x<256):((zae a).toList==(zae b).toList)=decide (a=b):=zkl ha hb
set_option maxRecDepth 100000 in
theorem zvx{w:World}{A:Option Addr}{n c:Nat}{L:List zbb}{s:List Nat}{t:Int}{nu:Bool}(h:Reads w w.heap.size 3 A n (recs zly L))(hL:∀x∈L,∀z∈x.1,z<256)(hs:∀z∈s,z<256)(hsl:s.length<=140737488351232)(hn:n<=4611686018427387903):
 Calls Tryz.prog 106 #[.slice A n c,.agg #[.string (zae s),.int .i64 t,.bool nu]] w (zal (.int .i64 (zlh L s t)) w):=by
 obtain rfl:=h.lenC;have z1:=zbt s;have K1:=Hz (fun(hh:zma L s)=>show zlh L s t=1 by rw[zlh,if_pos hh]);have K2:=Hz (fun(hh: ¬zma L s)=>show zlh L s t=if 0<=t/\t<=3 then 0 else 3 by rw[zlh,if_neg hh]);generalize zlh L s t=O at*;obtain⟨W0,hW0⟩:∃W,W=w.alloc (.cells #[.string (zae s),.int .i64 t,.bool nu] 71):=⟨_,rfl⟩;have b0:New w W0:=by rw[hW0];exact(Below.refl _ _).alloc (qmt _) _
 have B0:Blk W0 w.heap.size 71 #[.string (zae s),.int .i64 t,.bool nu]:=by rw[hW0];exact Blk.new _ _ _
 obtain⟨x0,x1,x2⟩:=zao B0;rw[hW0] at x0 x1 x2;by_cases h0:s.length=0
 ·have O1:=Hz (K1.out (.inl h0))
  have e1:((s.length:Int)==0)=true:=by simp[h0]
  clear h0 K1 K2 B0 h;go_enter Tryz.func106,Tryz.ntmps106
  go_wp2
  go_ret
  exact⟨by rw[O1.out];rfl,by rw[<-hW0];exact b0⟩
 ·have e1:((s.length:Int)==0)=false:=beq_eq_false_iff_ne.2 (by omega)
  by_cases h1:100<s.length
  ·have O1:=Hz (K1.out (.inr (.inl h1)))
   have e2:decide (100<(s.length:Int))=true:=by simp;omega
   clear h0 K1 K2 B0 h;go_enter Tryz.func106,Tryz.ntmps106
   go_wp2
   go_ret
   exact⟨by rw[O1.out];rfl,by rw[<-hW0];exact b0⟩
  ·have e2:decide (100<(s.length:Int))=false:=by simp;omega
   have K1:=Hz (fun(hh:s∈L.map (·.1))=>K1.out (.inr (.inr hh)));have K2:=Hz (fun(hh:s∉L.map (·.1))=>K2.out (fun h'=>by rcases h' with h'|h'|h';exact h0 h';exact h1 h';exact hh h'));have r0:=Reads.later h b0;clear h0 h1 h;go_enter Tryz.func106,Tryz.ntmps106
   go_wp2
   rw[<-hW0];clear x0 x1 x2 hW0;go_loopw [19] (fun i wr=>∃k:Nat,i= .int .i64 (k:Int)/\k<=L.length/\New W0 wr/\Hid (s∉(L.take k).map (·.1))) (fun i _=>L.length-(intOf i).toNat)
   case atStart=>exact⟨0,rfl,by omega,New.refl _,Hz (by simp)⟩
   case round=>
    obtain⟨k,rfl,hk,hb,H⟩:=hrel;have B1:=B0.below hb B0.lt;obtain⟨x0,x1,x2⟩:=zao B1;by_cases hlt:k<L.length
    ·obtain⟨ad,rfl,hbk,c0,c1,c2⟩:=(Reads.later r0 hb).colT hlt
     have M:=Hz (zvw (s:=s) hlt);have hq:=ql5 (nm L k) s (by rw[nm,qoa,qmm hlt];exact hL _ (qm8 hlt)) hs;have MM:=Hz (show nm L k=s->s∈L.map (·.1) from fun e=>by have:=(zvw (s:=s) hlt).2 (.inr e);exact qnh (by rwa[List.map_take] at this))
     unfold nm at*;generalize(L.getD k ([],0,false)).1=s2 at*;generalize(L.getD k ([],0,false)).2.1=t2 at*;generalize(L.getD k ([],0,false)).2.2=n2 at*;have X:=Hz (zao (B1.alloc (.cells #[.string (zae s2),.int .i64 t2,.bool n2] 71)));have Y:=Hz (zao (Blk.new wr 71 #[.string (zae s2),.int .i64 t2,.bool n2]));have hiz:(k:Int)<(L.length:Int):=by omega
     have b1:New W0 (wr.alloc (.cells #[.string (zae s2),.int .i64 t2,.bool n2] 71)):=Below.alloc hb hb.size _;obtain⟨q0,q1,q2⟩:=X.out;obtain⟨p0,p1,p2⟩:=Y.out;by_cases he:s2=s
     ·rw[decide_eq_true he] at hq
      have O1:=Hz (K1.out (MM.out he));clear he x0 x1 x2;go_wp2
      go_ret
      exact⟨by rw[O1.out];rfl,New.trans b0 b1⟩
     ·rw[decide_eq_false he] at hq
      have H2:=Hz (show s∉(L.take (k+1)).map (·.1) from fun hh=>by
       rcases M.out.1 hh with hh|hh
       ·exact H.out hh
       ·exact he hh)
      clear he x0 x1 x2;go_wp2
      go_roundw
      case rel=>exact⟨k+1,by go_num,by omega,b1,H2⟩
      case measure=>simp[intOf];omega
    ·obtain rfl:k=L.length:=by omega
     have H2:=H.out;rw[qql] at H2;have O1:=Hz (K2.out H2);clear H H2 K1 K2;go_wp2
     all_goals go_ret
     all_goals
      simp only[beq_iff_eq,beq_eq_false_iff_ne,ne_eq] at*;refine⟨?_,New.trans b0 hb⟩;rw[O1.out];first
       |(rw[if_pos (by omega)];rfl)
       |(rw[if_neg (by omega)];rfl)
set_option maxRecDepth 100000 in
theorem znu{w:World}{A:Option Addr}{n c:Nat}{L:List zbb}(h:Reads w w.heap.size 3 A n (recs zly L))(hL:∀x∈L,(∀z∈x.1,z<256)/\x.1.length<=140737488351232)(hc:n<=c)(hn:n<=4611686018427387903):
 Calls Tryz.prog 81 #[.slice A n c] w (zal (.int .i64 (zcy L)) w):=by
 obtain rfl:=h.lenC;by_cases hm:64<L.length
 ·rw[zyy hm]
  go_enter Tryz.func81,Tryz.ntmps81
  go_wp2
  go_ret
  exact⟨rfl,New.refl _⟩
 ·have HO:=Hz (z3w hm)
  generalize zcy L=O at*;go_enter Tryz.func81,Tryz.ntmps81
  go_wp2
  go_loopw [11] (fun i wr=>∃k:Nat,i= .int .i64 (k:Int)/\k<=L.length/\New w wr/\Hid (O=zgs (L.take k) (L.drop k))) (fun i _=>L.length-(intOf i).toNat)
  case atStart=>exact⟨0,rfl,by omega,New.refl _,HO⟩
  case round=>
   obtain⟨k,rfl,hk,hb,H⟩:=hrel;by_cases hlt:k<L.length
   ·have r1:=Reads.later h hb
    obtain⟨ad,rfl,hbk,c0,c1,c2⟩:=r1.colT hlt;have hx:(L.getD k ([],0,false))∈L:=by rw[qoa,qmm hlt];exact qm8 hlt
    obtain⟨y1,y2⟩:=hL _ hx;have r2:=r1.take (k:=k) (by omega);rw[zg5 (f:=zly) (sz:=3) (fun _=>rfl) L k (by omega)] at r2;have S:=H.out;rw[zyz L k hlt] at S;have P:=fun(W:World) (hW:New wr W)=>zvx (c:=c) (t:=(L.getD k ([],0,false)).2.1) (nu:=(L.getD k ([],0,false)).2.2) (Reads.later r2 hW) (fun x hx=>(hL x (qnh hx)).1) y1 y2 (by omega)
    have P:=Hz P;generalize hck:zlh (L.take k) (L.getD k ([],0,false)).1 (L.getD k ([],0,false)).2.1=ck at*;have HS:=Hz S;generalize(L.getD k ([],0,false)).1=s2 at*;generalize(L.getD k ([],0,false)).2.1=t2 at*;generalize(L.getD k ([],0,false)).2.2=n2 at*;clear S hck H hx y1 y2 r1 r2;have hiz:(k:Int)<(L.length:Int):=by omega
    have hiz2:(k:Int)<=(c:Int):=by omega
    obtain⟨W1,hW1⟩:∃W,W=wr.alloc (.cells #[.string (zae s2),.int .i64 t2,.bool n2] 71):=⟨_,rfl⟩;have b1:New wr W1:=by rw[hW1];exact(Below.refl _ _).alloc (qmt _) _
    have Y:Blk W1 wr.heap.size 71 #[.string (zae s2),.int .i64 t2,.bool n2]:=by rw[hW1];exact Blk.new _ _ _
    go_wp2_with fail
    rw[<-hW1];clear hW1;refine zax New [(true,0),(true,1),(true,2),(true,3),(false,4),(true,5)]
     New.refl New.trans (by kernel_rfl) (by kernel_rfl) (by kernel_rfl) (by kernel_rfl) ?_
    have hU:=New.trans b1 (New.drew W1);have hV:=New.refl W1.drew;repeat(first
     |(refine zba rfl rfl (fun K hK=>?_);go_simp
       (with_reducible refine(P.out _ hU).mono ?_)
       rintro e w9 ⟨rfl,b9⟩;refine hK _ _ b9 ?_;clear hK;replace hU:=New.trans hU b9;replace hV:=New.trans hV b9)
     |(refine zar rfl rfl (v:=?_) (fun W hW=>?_) ?_;rotate_left;(obtain⟨x0,x1,x2⟩:=zao (Y.below (New.trans (New.drew W1) (New.trans hV hW)) Y.lt);go_simp<;> with_reducible rfl);simp only[Act.put,qo6,qou,qo7]))
    refine zdh ?_;clear Y b1 P;by_cases hz:ck=0
    ·have HS2:=Hz (show O=zgs (L.take (k+1)) (L.drop (k+1)) by rw[HS.out,if_pos hz])
     subst hz;go_wp2
     go_roundw
     case rel=>exact⟨k+1,by go_num,by omega,New.trans hb hU,HS2⟩
     case measure=>simp[intOf];omega
    ·have HS2:=Hz (show O=ck by rw[HS.out,if_neg hz])
     have e1:(ck != 0)=true:=by simpa using hz
     clear hz;go_wp2
     go_ret
     exact⟨by rw[HS2.out];rfl,New.trans hb hU⟩
   ·obtain rfl:k=L.length:=by omega
    have HS2:=Hz (show O=0 by rw[H.out,z3x]);go_wp2
    go_ret
    exact⟨by rw[HS2.out];rfl,hb⟩
end Go.Proofs.Y
