/- Merged. -/
import Derived.Test.YtmgfkpnghlmheaaGreatBun8
set_option maxHeartbeats 4000000
namespace Go.Hm
theorem z1g(n:Nat)(h0:n≠0)(h:n<18446744073709551616):Lib.bitLen (n ||| 1)=Lib.bitLen n:=by
 have e:(n ||| 1)/2=n/2:=by rw[Nat.or_div_two];simp
 have hlt:n ||| 1<2^64:=Nat.or_lt_two_pow h (by omega);have hne:n ||| 1≠0:=by intro e0;rw[e0] at e;have:=Nat.right_le_or (n:=n) (m:=1);omega
 rw[Lib.bitLen_half _ hne hlt,Lib.bitLen_half n h0 h,e]
theorem qe1:∀(k n:Nat),n<2^k->n≠0->n<18446744073709551616->(Lib.bitLen n+6)/7=(vp n).length:=by
 intro k;induction k using Nat.strongRecOn with
 |ind k ih=>
  intro n hk h0 h;by_cases hn:n<128
  ·have h1:=Lib.bitLen_le n 7 (by omega) hn
   have h2:=Lib.bitLen_half n h0 h;rw[ze4 hn];simp only[List.length_singleton];omega
  ·have e:Lib.bitLen n=7+Lib.bitLen (n/128):=Lib.bitLen_shift 7 n (by omega) h
   have hk7:7<k:=by
    refine Nat.lt_of_not_le fun hle=>?_
    have:=Nat.pow_le_pow_right (n:=2) (by omega) hle;omega
   have hd:n/128<2^(k-7):=by refine Nat.div_lt_of_lt_mul ?_;rw[show(128:Nat)=2^7 from rfl,<-Nat.pow_add,show 7+(k-7)=k by omega];exact hk
   have:=ih (k-7) (by omega) (n/128) hd (by omega) (by omega);rw[zfz hn,List.length_cons,<-this,e];omega
theorem qe2(n:Nat)(h:n<18446744073709551616):(Lib.bitLen (n ||| 1)+6)/7=(vp n).length:=by
 by_cases h0:n=0
 ·subst h0;rw[ze4 (by omega)];decide
 ·rw[z1g n h0 h,qe1 64 n h h0 h]
theorem qac(a:Nat)(h:a<18446744073709551616):bits .xor .u64 (a:Int) 0=a:=by have:=u64_xor_nat a 0 h (by omega);simpa using this
theorem qad(a:Nat)(h:a<18446744073709551616):bits .xor .u64 (a:Int) 18446744073709551615=((18446744073709551615-a:Nat):Int):=by show IntKind.u64.wrap ((BitVec.ofInt 64 (a:Int) ^^^ BitVec.ofInt 64 18446744073709551615).toNat:Int)=_;rw[show BitVec.ofInt 64 18446744073709551615=BitVec.allOnes 64 from by decide,BitVec.xor_allOnes,BitVec.toNat_not,ofInt_u64 a h,IntKind.wrap_u64];omega
theorem qae(a:Nat)(h:a<9223372036854775808):bits .xor .i64 (a:Int) 0=a:=by show IntKind.i64.wrap ((BitVec.ofInt 64 (a:Int) ^^^ BitVec.ofInt 64 0).toNat:Int)=_;rw[show BitVec.ofInt 64 0=0#64 from by decide,BitVec.xor_zero,ofInt_u64 a (by omega),IntKind.wrap_i64];omega
theorem qaf(a:Nat)(h:a<9223372036854775808):bits .xor .i64 (a:Int) (-1)= -(a:Int)-1:=by show IntKind.i64.wrap ((BitVec.ofInt 64 (a:Int) ^^^ BitVec.ofInt 64 (-1)).toNat:Int)=_;rw[show BitVec.ofInt 64 (-1)=BitVec.allOnes 64 from by decide,BitVec.xor_allOnes,BitVec.toNat_not,ofInt_u64 a (by omega),IntKind.wrap_i64];omega
def zig(x:Int):Nat:=if x<0 then(-(2*x)-1).toNat else(2*x).toNat
def zag(n:Nat):Int:=if n%2=0 then((n/2:Nat):Int) else-((n/2:Nat):Int)-1
theorem znt(x:Int):zag (zig x)=x:=by unfold zig zag;split<;> split<;> omega
theorem zwx(n:Nat):zig (zag n)=n:=by unfold zig zag;split<;> split<;> omega
end Go.Hm
namespace Go.Proofs.Y
open Go.RowKit Go.Hm
def qg1(n:Nat)(w:World)(e:Ending)(w':World):Prop:=e= .returned (.int .i64 ((vp n).length:Int))/\w=w'
theorem zy4(n:Nat)(w:World)(h:n<18446744073709551616):Calls Tryz.prog 118 #[.int .u64 n] w (qg1 n w):=by
 have e:bits .or .u64 (n:Int) 1=((n ||| 1:Nat):Int):=by have:=u64_or_nat n 1 h (by omega);simpa using this
 have hlt:n ||| 1<2^64:=Nat.or_lt_two_pow h (by omega);have hv:=qe2 n h;have h10:=zap h;have hb:=Lib.bitLen_le (n ||| 1) 64 (by omega) hlt;go_enter Tryz.func118,Tryz.ntmps118
 go_wp2_with (first
  |(go_at_call 151;refine(bits_Len64 ((n ||| 1:Nat):Int) _ (by omega) (by omega)).mono ?_;rintro e w' ⟨rfl,rfl⟩))
 go_ret
 exact⟨by rw[<-hv];go_num,rfl⟩
def qg2(w:World)(l:List Nat)(N:Nat)(nv v:Value)(wr:World):Prop:=∃N' D A c,nv= .int .u64 ((N':Nat):Int)/\N'<=N/\D.length+(vp N').length<=l.length+10/\v= .slice A D.length c/\D++vp N'=l++vp N/\Own wr w.heap.size 5 (.slice A D.length c) (za2 .u8 D)/\Below w.heap.size w wr
set_option maxRecDepth 100000 in
theorem zcz(A:Option Addr)(n c:Nat)(l:List Nat)(N:Nat)(w:World)(hr:Reads w w.heap.size 1 A n (za2 .u8 l))(hn:n<=140737488355200)(hN:N<=18446744073709551615):
 Calls Tryz.prog 93 #[.slice A n c,.int .u64 N] w (zc4 (l++vp N) w):=by
 obtain rfl:l.length=n:=by have:=hr.1;rw[zaa] at this;omega
 have hsz:=zap (n:=N) (by omega);go_enter Tryz.func93,Tryz.ntmps93
 go_wp2_with (first
  |(go_at_call 118;refine(zy4 N _ (by omega)).mono ?_;rintro e w' ⟨rfl,rfl⟩)
  |(refine zcf elB rfl (.tmp 7) (.tmp 12) rfl (W:=w) (B:=w.heap.size) l.length (l.length+(vp N).length) rfl rfl rfl (by simp) (by omega) (Below.refl _ _) (Nat.le_refl _) rfl (by omega) (by simp only[maxLen];omega) ?_
    intro w1 hown1 hg1 hb1 hs1)
  |(refine znn elB rfl (.tmp 14) (.tmp 15) rfl (W:=w) (B:=w.heap.size) hown1 (hr.grown_far hg1 (by simp)) rfl rfl l.length (Nat.min_self _) hb1 (Nat.le_refl _) (zcs _ _) ?_
    intro w2 hown2 hg2 hb2 hs2))
 go_frame
 go_loopw [1,5] (qg2 w l N) (fun nv _ _=>(intOf nv).toNat)
 case atStart=>
  refine⟨N,l,_,_,rfl,Nat.le_refl _,by omega,rfl,rfl,?_,hb2⟩;rw[List.take_of_length_le (by rw[zaa];omega),List.drop_of_length_le (by simp),List.append_nil] at hown2;exact hown2
 case round=>
  obtain⟨N',D,A',c',rfl,hN',hD,rfl,hDN,hown,hb⟩:=hrel;have hb0:=hb.size;by_cases hlt:N'<128
  ·go_wp2_with (first
    |(refine zdt elB rfl (.tmp 27) (.tmp 30) rfl (W:=w) (B:=w.heap.size) hown rfl rfl N' rfl hb (Nat.le_refl _) (by omega) (by omega) (by simp only[maxLen];omega) ?_
      intro A3 c3 w3 _ _ hown3 hg3 hb3 _ _))
   go_ret
   rw[ze4 hlt] at hDN;rw[hDN] at hown3;have hl':D.length+1=(l++vp N).length:=by rw[<-hDN];simp
   rw[hl'] at hown3⊢;exact⟨_,_,_,rfl,hown3,hb3⟩
  ·have hu:=qih N'
   have Hu:=Hz hu;clear hu;have hv:=zfz hlt;have Hv:=Hz hv;clear hv;go_wp2_with (first
    |(refine zdt elB rfl (.tmp 19) (.tmp 23) rfl (W:=w) (B:=w.heap.size) hown rfl rfl (N'%128+128) (by rw[Hu.out]) hb (Nat.le_refl _) (by omega) (by omega) (by simp only[maxLen];omega) ?_
      intro A3 c3 w3 _ _ hown3 hg3 hb3 _ _))
   go_roundw
   case rel=>
    have hv':=Hv.out;rw[hv',List.length_cons] at hD;exact⟨N'/128,D++[N'%128+128],A3,c3,by go_num,by omega,by simp;omega,by simp,by rw[<-hDN,hv'];simp,by simpa using hown3,hb3⟩
   case measure=>simp[intOf];omega
def z4q(v:Value)(w:World)(e:Ending)(w':World):Prop:=e= .returned v/\w=w'
theorem znu(x:Int)(w:World)(h: -9223372036854775808<=x)(h1:x<=9223372036854775807):Calls Tryz.prog 179 #[.int .i64 x] w (z4q (.int .u64 (zig x:Int)) w):=by
 have e:bits .xor .u64 (IntKind.u64.wrap (IntKind.u64.wrap x*2)) (IntKind.u64.wrap (x/9223372036854775808))=(zig x:Int):=by
  simp only[IntKind.wrap_u64];by_cases hx:x<0
  ·rw[show(x/9223372036854775808)%18446744073709551616=18446744073709551615 from by omega,
    show x%18446744073709551616*2%18446744073709551616=((18446744073709551616+2*x).toNat:Int) from by omega,qad _ (by omega)]
   simp only[zig,if_pos hx];omega
  ·rw[show(x/9223372036854775808)%18446744073709551616=0 from by omega,
    show x%18446744073709551616*2%18446744073709551616=((2*x).toNat:Int) from by omega,qac _ (by omega)]
   simp only[zig,if_neg hx]
 go_enter Tryz.func179,Tryz.ntmps179
 go_wp2
 go_ret
 exact⟨rfl,rfl⟩
theorem znv(x:Nat)(w:World)(h:x<18446744073709551616):Calls Tryz.prog 211 #[.int .u64 (x:Int)] w (z4q (.int .i64 (zag x)) w):=by
 have e1:bits .and .u64 (x:Int) 1=((x%2:Nat):Int):=by have:=u64_and_nat x 1 h (by omega);rw[nat_mask1] at this;simpa using this
 have e:bits .xor .i64 ((x:Int)/2) (-((x:Int)%2))=zag x:=by
  by_cases hx:x%2=0
  ·rw[show(-((x:Int)%2))=0 from by omega,show((x:Int)/2)=((x/2:Nat):Int) from by omega,qae _ (by omega)]
   simp only[zag,if_pos hx]
  ·rw[show(-((x:Int)%2))= -1 from by omega,show((x:Int)/2)=((x/2:Nat):Int) from by omega,qaf _ (by omega)]
   simp only[zag,if_neg hx]
 go_enter Tryz.func211,Tryz.ntmps211
 go_wp2
 go_ret
 exact⟨rfl,rfl⟩
end Go.Proofs.Y
namespace Go.Hm
theorem zn3{N b:Nat}{r s:List Nat}(h:b::s=vp N++r)(hb:b<128):N=b/\r=s:=by
 by_cases hN:N<128
 ·rw[ze4 hN] at h
  simp only[List.cons_append,List.nil_append,List.cons.injEq] at h;exact⟨h.1.symm,h.2.symm⟩
 ·rw[zfz hN] at h
  simp only[List.cons_append,List.cons.injEq] at h;omega
theorem zn4{N b:Nat}{r s:List Nat}(h:b::s=vp N++r)(hb:128<=b):N%128+128=b/\0<N/128/\s=vp (N/128)++r:=by
 by_cases hN:N<128
 ·rw[ze4 hN] at h
  simp only[List.cons_append,List.nil_append,List.cons.injEq] at h;omega
 ·rw[zfz hN] at h
  simp only[List.cons_append,List.cons.injEq] at h;exact⟨h.1.symm,by omega,h.2⟩
theorem qfc{b N:Nat}(hb:128<=b)(h8:b<256)(hN:0<N):b::vp N=vp (b-128+128*N):=by
 rw[zfz (n:=b-128+128*N) (by omega)];congr 1
 ·omega
 ·congr 1;omega
theorem z1u:∀(k M N:Nat) (r s:List Nat),M<=k->vp M++r=vp N++s->M=N/\r=s:=by
 intro k;induction k using Nat.strongRecOn with
 |ind k ih=>
  intro M N r s hk h;by_cases hM:M<128
  ·rw[ze4 hM] at h
   have:=zn3 h hM;exact⟨this.1.symm,this.2.symm⟩
  ·rw[zfz hM] at h
   have h1:=zn4 h (by omega);have h2:=ih (M/128) (by omega) _ _ _ _ (Nat.le_refl _) h1.2.2;exact⟨by omega,h2.2⟩
def VIn(l:List Nat)(k v:Nat)(rl:List Nat):Prop:=
 v<128^k/\(∀N r,l=vp N++r-> ∃N',N=v+128^k*N'/\(k=0\/0<N')/\rl=vp N'++r)/\
 (∀N r,(k=0\/0<N)->rl=vp N++r->l=vp (v+128^k*N)++r)
theorem VIn.zero(l:List Nat):VIn l 0 0 l:=⟨by simp,fun N r h=>⟨N,by simp,.inl rfl,h⟩,fun N r _ h=>by simpa using h⟩
theorem VIn.step{l rl:List Nat}{k v b:Nat}(h:VIn l k v (b::rl))(hb:128<=b)(h8:b<256):VIn l (k+1) (v+128^k*(b-128)) rl:=by
 obtain⟨h1,h2,h3⟩:=h;have hp:128^(k+1)=128^k*128:=Nat.pow_succ ..;have hm:128^k*(b-128)<=128^k*127:=Nat.mul_le_mul_left _ (by omega);refine⟨by omega,fun N r e=>?_,fun N r hN e=>?_⟩
 ·obtain⟨N',e1,e2,e3⟩:=h2 N r e
  obtain⟨f1,f2,f3⟩:=zn4 e3 hb;refine⟨N'/128,?_,.inr f2,f3⟩;rw[e1,hp,Nat.mul_assoc,Nat.add_assoc,<-Nat.mul_add];congr 2
  omega
 ·have hN':0<N:=by rcases hN with hN|hN<;> omega
  have:=h3 (b-128+128*N) r (.inr (by omega)) (by rw[e,<-qfc hb h8 hN',List.cons_append]);rw[this,Nat.mul_add,hp,Nat.mul_assoc,Nat.add_assoc]
theorem VIn.done{l rl:List Nat}{k v b:Nat}(h:VIn l k v (b::rl))(hb:b<128)(hk:k=0\/0<b):l=vp (v+128^k*b)++rl:=
 h.2.2 b rl hk (by rw[ze4 hb];rfl)
theorem VIn.not_zero{l rl:List Nat}{k v:Nat}(h:VIn l k v (0::rl))(hk:0<k):∀N r,l=vp N++r->18446744073709551616<=N:=by intro N r e;obtain⟨N',_,e2,e3⟩:=h.2.1 N r e;have:=zn3 e3 (by omega);omega
theorem VIn.not_nil{l:List Nat}{k v:Nat}(h:VIn l k v []):∀N r,l=vp N++r->18446744073709551616<=N:=by intro N r e;obtain⟨N',_,_,e3⟩:=h.2.1 N r e;have:=zlw N';have:=congrArg List.length e3;simp at this;omega
theorem VIn.not_big{l rl:List Nat}{v b:Nat}(h:VIn l 9 v (b::rl))(hb:1<b):∀N r,l=vp N++r->18446744073709551616<=N:=by
 intro N r e;obtain⟨N',e1,e2,e3⟩:=h.2.1 N r e;by_cases hlt:b<128
 ·have:=(zn3 e3 hlt).1
  omega
 ·have:=zn4 e3 (by omega)
  omega
theorem qdu(k:Nat):(128:Nat)^k=2^(7*k):=by rw[Nat.pow_mul]
theorem VIn.fits{k v b:Nat}(hv:v<128^k)(hb:b<128)(hk:k<=8\/(k<=9/\b<=1)):v+128^k*b<18446744073709551616:=by
 rcases hk with hk|⟨hk,hb1⟩
 ·have h1:(128:Nat)^k<=128^8:=Nat.pow_le_pow_right (by omega) hk
  have h2:128^k*b<=128^8*b:=Nat.mul_le_mul_right _ h1;omega
 ·have h1:(128:Nat)^k<=128^9:=Nat.pow_le_pow_right (by omega) hk
  have h2:128^k*b<=128^9*b:=Nat.mul_le_mul_right _ h1;omega
theorem z5d(b:Nat)(h:b<256):bits .andNot .u8 (b:Int) 128=((b%128:Nat):Int):=by have:=u8_andNot_nat b 128 h (by omega);rw[show 255-128=127 from rfl,nat_mask7] at this;simpa using this
theorem qfd{k v b:Nat}(hv:v<128^k)(hb:b<128)(hk:k<=8\/(k<=9/\b<=1)):
 bits .or .u64 (v:Int) ((b:Int)*2^(7*k)%18446744073709551616)=((v+128^k*b:Nat):Int):=by
 have hf:=VIn.fits hv hb hk;have e2:(b:Int)*2^(7*k)=((b*2^(7*k):Nat):Int):=by simp
 have e0:128^k*b=b*2^(7*k):=by rw[qdu,Nat.mul_comm]
 rw[e2,show(((b*2^(7*k):Nat):Int)%18446744073709551616)=((b*2^(7*k):Nat):Int) from Int.emod_eq_of_lt (by omega) (by omega),
  u64_or_nat v (b*2^(7*k)) (by omega) (by omega),Nat.or_comm,qdp b v (7*k) (by rw[<-qdu];exact hv),e0,Nat.add_comm]
theorem zzh{k v b:Nat}(hv:v<128^k)(h8:b<256)(hk:k<=8\/(k<=9/\b%128<=1)):
 bits .or .u64 (v:Int) (IntKind.u64.wrap (IntKind.u64.wrap (bits .andNot .u8 (b:Int) 128)*2^(7*k)))=((v+128^k*(b%128):Nat):Int):=by
 rw[z5d b h8,IntKind.wrap_u64,IntKind.wrap_u64,show(((b%128:Nat):Int)%18446744073709551616)=((b%128:Nat):Int) from by omega];exact qfd hv (by omega) hk
end Go.Hm
namespace Go.Proofs.Y
open Go.RowKit Go.Hm
def qfe(g:Nat)(l:List Nat)(w:World)(e:Ending)(w':World):Prop:=
 (∃N r,l=vp N++r/\N<18446744073709551616/\e= .returned (.int .u64 (N:Int))/\Cur w' g r false/\w.grownBy w' (some g))\/
 ((∀N r,l=vp N++r->18446744073709551616<=N)/\e= .returned (.int .u64 0)/\Cur w' g [] true/\w.grownBy w' (some g))
def qiy(g:Nat)(l:List Nat)(w:World)(a:Act)(w':World):Prop:=
 ∃(u1 u2 u3 u4 u5 u6 u7 u8 u9 u10 u11 u12 u13 u14 u15 u16 u17 u18 u19 u20 u21 u22 u23 u24 u25 u26 u27 u28 u29 u30 u31 u32 u33 u34 u35 u36 u37 u38 u39 u40 u41:Value) (rl:List Nat) (bad:Bool),a={tmps:= #[.pointer (some ⟨g,0,none⟩),u1,u2,u3,u4,u5,u6,u7,u8,u9,u10,u11,u12,u13,u14,u15,u16,u17,u18,u19,u20,u21,u22,u23,u24,u25,u26,u27,u28,u29,u30,u31,u32,u33,u34,u35,u36,u37,u38,u39,u40,u41],defers:=[]}/\Cur w' g rl bad/\w.grownBy w' (some g)/\(∀N r,l=vp N++r->18446744073709551616<=N)
theorem Cur.lt8{w:World}{g:Nat}{l:List Nat}{bad:Bool}(h:Cur w g l bad):∀x∈l,x<256:=by obtain⟨A,c,_,_,_,_,h5,_⟩:=h;exact h5
set_option maxRecDepth 100000 in
theorem z5e{w:World}{g:Nat}{l:List Nat}(h:Cur w g l false)(h8:∀x∈l,x<256):
 Calls Tryz.prog 111 #[.pointer (some ⟨g,0,none⟩)] w (qfe g l w):=by
 go_enter Tryz.func111,Tryz.ntmps111
 go_wp2
 refine wp_scope_jumps 0 (qiy g l w) (fun _ _=>0) rfl ?_ ?_
 ·go_wp2
  go_loopw [3,4] (fun v i wr=>∃(k x:Nat) (rl:List Nat),i= .int .i64 ((7*k:Nat):Int)/\k<=9/\v= .int .u64 (x:Int)/\VIn l k x rl/\(∀y∈rl,y<256)/\Cur wr g rl false/\w.grownBy wr (some g)) (fun _ i _=>100-(intOf i).toNat)
  case atStart=>exact⟨0,0,l,rfl,by omega,rfl,VIn.zero l,h8,h,Far.refl g w⟩
  case round=>
   obtain⟨k,x,rl,rfl,hk,rfl,hV,h8',hC,hg⟩:=hrel;have HV:=Hz hV;cases rl with
   |nil=>
    have B:=Hz (zmv hC (.inr (by simp)));go_wp2_with (first
     |(go_at_call 122;refine B.out.mono ?_;rintro e w1 ⟨rfl,C1,g1⟩
       have hB:=Hz (zjl C1))
     |(go_at_call 80;refine hB.out.mono ?_;rintro e w2 ⟨rfl,rfl⟩)
     |go_step3)
    exact⟨rfl,_,_,_,_,_,_,_,_,_,_,_,_,_,_,_,_,_,_,_,_,_,_,_,_,_,_,_,_,_,_,_,_,_,_,_,_,_,_,_,_,_,_,_,rfl,C1,Far.trans hg g1,HV.out.not_nil⟩
   |cons b rl=>
    have hb8:b<256:=h8' b (by simp);have B:=Hz (zy0 hC);have hx:=hV.1;clear hV;by_cases hz:0<k/\b=0
    ·obtain⟨hz,rfl⟩:=hz
     go_wp2_with (first
      |(go_at_call 122;refine B.out.mono ?_;rintro e w1 ⟨rfl,C1,g1⟩
        have hB:=Hz (zjl C1))
      |(go_at_call 80;refine hB.out.mono ?_;rintro e w2 ⟨rfl,rfl⟩)
      |go_step3)
     all_goals first
      |(exfalso;omega)
      |exact⟨rfl,_,_,_,_,_,_,_,_,_,_,_,_,_,_,_,_,_,_,_,_,_,_,_,_,_,_,_,_,_,_,_,_,_,_,_,_,_,_,_,_,_,_,_,rfl,C1,Far.trans hg g1,HV.out.not_zero hz⟩
    ·by_cases h9:k=9
     ·subst h9
      by_cases hb1:1<b
      ·go_wp2_with (first
       |(go_at_call 122;refine B.out.mono ?_;rintro e w1 ⟨rfl,C1,g1⟩
         have hB:=Hz (zjl C1))
       |(go_at_call 80;refine hB.out.mono ?_;rintro e w2 ⟨rfl,rfl⟩)
       |go_step3)
       all_goals first
        |(exfalso;omega)
        |exact⟨rfl,_,_,_,_,_,_,_,_,_,_,_,_,_,_,_,_,_,_,_,_,_,_,_,_,_,_,_,_,_,_,_,_,_,_,_,_,_,_,_,_,_,_,_,rfl,C1,Far.trans hg g1,HV.out.not_big hb1⟩
      ·have HO:=zzh hx hb8 (.inr ⟨by omega,by omega⟩)
       rw[show(2:Int)^(7*9)=9223372036854775808 from by decide,show b%128=b from by omega] at HO;go_wp2_with (first
        |(go_at_call 122;refine B.out.mono ?_;rintro e w1 ⟨rfl,C1,g1⟩
          have hB:=Hz (zjl C1))
        |(go_at_call 80;refine hB.out.mono ?_;rintro e w2 ⟨rfl,rfl⟩)
        |go_step3)
       all_goals first
        |(rename_i hq;exfalso;rcases hq with hq|hq;(simp at hq;omega);omega)
        |(simp only[Exit.jump];go_ret
          exact .inl ⟨_,_,HV.out.done (by omega) (.inl (by omega)),VIn.fits hx (by omega) (.inr ⟨by omega,by omega⟩),by simp,C1,Far.trans hg g1⟩)
        |(simp only[Exit.jump];go_ret
          exact .inl ⟨_,_,HV.out.done (by omega) (.inr (by omega)),VIn.fits hx (by omega) (.inr ⟨by omega,by omega⟩),by simp,C1,Far.trans hg g1⟩)
     ·have HO:=zzh hx hb8 (.inl (by omega))
      go_wp2_with (first
       |(go_at_call 122;refine B.out.mono ?_;rintro e w1 ⟨rfl,C1,g1⟩
         have hB:=Hz (zjl C1))
       |(go_at_call 80;refine hB.out.mono ?_;rintro e w2 ⟨rfl,rfl⟩)
       |go_step3)
      all_goals first
       |(exfalso;omega)
       |(simp only[Exit.jump];go_ret
         exact .inl ⟨x+128^k*b,rl,HV.out.done (by omega) (by omega),VIn.fits hx (by omega) (.inl (by omega)),by rw[show((b:Int)%128)=(b:Int) from by omega];simp,C1,Far.trans hg g1⟩)
       |(go_roundw
         case rel=>exact⟨k+1,x+128^k*(b-128),rl,by go_num,by omega,by rw[show((b:Int)%128)=((b-128:Nat):Int) from by omega];simp,HV.out.step (by omega) hb8,fun y hy=>h8' y (List.mem_cons_of_mem _ hy),C1,Far.trans hg g1⟩
         case measure=>simp[intOf];omega)
 ·rintro a' w' ⟨u,u,u,u,u,u,u,u,u,u,u,u,u,u,u,u,u,u,u,u,u,u,u,u,u,u,u,u,u,u,u,u,u,u,u,u,u,u,u,u,u,rl,bad,rfl,C1,hg,hno⟩
  have hF:=Hz (zhg C1);go_wp2_with (go_at_call 110;refine hF.out.mono ?_;rintro e w2 ⟨rfl,C2,g2⟩)
  simp only[Exit.jump];go_ret
  exact .inr ⟨hno,rfl,C2,Far.trans hg g2⟩
set_option maxRecDepth 100000 in
theorem qff{w:World}{g:Nat}{l:List Nat}{bad:Bool}(h:Cur w g l bad)(hn:bad=true\/l.length<1):
 Calls Tryz.prog 111 #[.pointer (some ⟨g,0,none⟩)] w (zde (.returned (.int .u64 0)) g [] true w):=by
 have B:=Hz (zmv h hn);clear hn;go_enter Tryz.func111,Tryz.ntmps111
 go_wp2
 refine wp_scope_jumps 0 (qiy g [] w) (fun _ _=>0) rfl ?_ ?_
 ·go_wp2
  refine wp_loop_rounds 1 ?_;rw[rounds_succ];go_wp2_with (first
   |(go_at_call 122;refine B.out.mono ?_;rintro e w1 ⟨rfl,C1,g1⟩
     have hB:=Hz (zjl C1))
   |(go_at_call 80;refine hB.out.mono ?_;rintro e w2 ⟨rfl,rfl⟩)
   |go_step3)
  exact⟨rfl,_,_,_,_,_,_,_,_,_,_,_,_,_,_,_,_,_,_,_,_,_,_,_,_,_,_,_,_,_,_,_,_,_,_,_,_,_,_,_,_,_,_,_,rfl,C1,g1,(VIn.zero []).not_nil⟩
 ·rintro a' w' ⟨u,u,u,u,u,u,u,u,u,u,u,u,u,u,u,u,u,u,u,u,u,u,u,u,u,u,u,u,u,u,u,u,u,u,u,u,u,u,u,u,u,rl,bad',rfl,C1,hg,hno⟩
  have hF:=Hz (zhg C1);go_wp2_with (go_at_call 110;refine hF.out.mono ?_;rintro e w2 ⟨rfl,C2,g2⟩)
  simp only[Exit.jump];go_ret
  exact⟨rfl,C2,Far.trans hg g2⟩
theorem zw9{w:World}{g N:Nat}{r:List Nat}(h:Cur w g (vp N++r) false)(hN:N<18446744073709551616):
 Calls Tryz.prog 111 #[.pointer (some ⟨g,0,none⟩)] w (zde (.returned (.int .u64 (N:Int))) g r false w):=
 (z5e h h.lt8).mono fun e w' hp=>by
  rcases hp with⟨M,s,h1,h2,h3,h4,h5⟩|⟨h1,_⟩
  ·obtain⟨rfl,rfl⟩:=z1u N N M r s (Nat.le_refl _) h1
   exact⟨h3,h4,h5⟩
  ·have:=h1 N r rfl
   omega
theorem z5f{w:World}{g:Nat}{l:List Nat}{bad:Bool}(h:Cur w g l bad)(hN:bad=true\/ ∀N r,l=vp N++r->18446744073709551616<=N):
 Calls Tryz.prog 111 #[.pointer (some ⟨g,0,none⟩)] w (zde (.returned (.int .u64 0)) g [] true w):=by
 cases bad with
 |true=>exact qff h (.inl rfl)
 |false=>
  refine(z5e h h.lt8).mono fun e w' hp=>?_
  rcases hp with⟨M,s,h1,h2,h3,h4,h5⟩|⟨h1,h2,h3,h4⟩
  ·rcases hN with hN|hN
   ·simp at hN
   ·have:=hN M s h1
    omega
  ·exact⟨h2,h3,h4⟩
theorem qfg{w:World}{g N:Nat}{r:List Nat}{m:Int}(h:Cur w g (vp N++r) false)(hN:(N:Int)<=m)(hm:m<=9223372036854775807):
 Calls Tryz.prog 79 #[.pointer (some ⟨g,0,none⟩),.int .i64 m] w (zde (.returned (.int .i64 (N:Int))) g r false w):=by
 have G:=Hz (zw9 h (by omega));go_enter Tryz.func79,Tryz.ntmps79
 go_wp2_with (go_at_call 111;refine G.out.mono ?_;rintro e w1 ⟨rfl,C1,g1⟩)
 go_ret
 exact⟨rfl,C1,g1⟩
theorem qg8{w:World}{g:Nat}{l:List Nat}{bad:Bool}{m:Int}(h:Cur w g l bad)(hN:bad=true\/ ∀N r,l=vp N++r->m<N)(hm0: -9223372036854775808<=m)(hm:m<=9223372036854775807):
 Calls Tryz.prog 79 #[.pointer (some ⟨g,0,none⟩),.int .i64 m] w (zde (.returned (.int .i64 0)) g [] true w):=by
 by_cases hG:bad=true\/ ∀N r,l=vp N++r->18446744073709551616<=N
 ·have G:=Hz (z5f h hG)
  clear hG hN;go_enter Tryz.func79,Tryz.ntmps79
  by_cases hm1:m<0
  ·go_wp2_with (first
    |(go_at_call 111;refine G.out.mono ?_;rintro e w1 ⟨rfl,C1,g1⟩
      have hF:=Hz (zhg C1))
    |(go_at_call 110;refine hF.out.mono ?_;rintro e w2 ⟨rfl,C2,g2⟩))
   go_ret
   exact⟨rfl,C2,Far.trans g1 g2⟩
  ·go_wp2_with (first
    |(go_at_call 111;refine G.out.mono ?_;rintro e w1 ⟨rfl,C1,g1⟩))
   go_ret
   exact⟨rfl,C1,g1⟩
 ·simp only[not_or,Classical.not_forall] at hG
  obtain⟨hb,N,r,rfl,hlt⟩:=hG;have hb':bad=false:=by simpa using hb
  subst hb';have hmN:m<N:=by rcases hN with hN|hN;exact absurd hN hb;exact hN N r rfl
  have G:=Hz (zw9 h (by omega));clear hN hb;go_enter Tryz.func79,Tryz.ntmps79
  by_cases hm1:m<0
  ·go_wp2_with (first
    |(go_at_call 111;refine G.out.mono ?_;rintro e w1 ⟨rfl,C1,g1⟩
      have hF:=Hz (zhg C1))
    |(go_at_call 110;refine hF.out.mono ?_;rintro e w2 ⟨rfl,C2,g2⟩))
   go_ret
   exact⟨rfl,C2,Far.trans g1 g2⟩
  ·go_wp2_with (first
    |(go_at_call 111;refine G.out.mono ?_;rintro e w1 ⟨rfl,C1,g1⟩
      have hF:=Hz (zhg C1))
    |(go_at_call 110;refine hF.out.mono ?_;rintro e w2 ⟨rfl,C2,g2⟩))
   go_ret
   exact⟨rfl,C2,Far.trans g1 g2⟩
open Go.RowKit Go.Hm
theorem zwa{w:World}{A A2:Option Addr}{n c n2 c2:Nat}{l:List za1}(h:Reads w w.heap.size 3 A n (recs zhq l))(h2:Reads w w.heap.size 3 A2 n2 (recs zhq l))(hn:n<=4611686018427387903):
 Calls Tryz.prog 22 #[.slice A n c,.slice A2 n2 c2] w (zak (.bool true) w):=by
 obtain rfl:=h.lenC;obtain rfl:=h2.lenC;go_enter Tryz.func22,Tryz.ntmps22
 go_wp2
 go_loopw [5] (fun z wr=>∃(k q:Nat),z= .int .i64 (k:Int)/\k<=l.length/\wr=w.drewN q) (fun z _=>l.length-(intOf z).toNat)
 case atStart=>exact⟨0,0,rfl,by omega,rfl⟩
 case round=>
  obtain⟨k,q,rfl,hk,rfl⟩:=hrel;by_cases hlt:k<l.length
  ·obtain⟨ad,rfl,hb,h3,h4,h5⟩:=(h.drewN q).colT hlt
   obtain⟨ad2,rfl,hb2,h6,h7,h8⟩:=(h2.drewN q).colT hlt;generalize(l.getD k ([],0,false)).1=y1 at*;generalize(l.getD k ([],0,false)).2.1=y2 at*;generalize(l.getD k ([],0,false)).2.2=y3 at*;have hiz:(k:Int)<(l.length:Int):=by omega
   have hbb:(ad.add (k*3)).block<(w.drewN q).drew.heap.size:=by rw[za0];exact hb
   have hbb2:(ad2.add (k*3)).block<(w.drewN q).drew.heap.size:=by rw[za0];exact hb2
   have C1:=Hz (ze1 h3 hbb);have C2:=Hz (ze1 h4 hbb);have C3:=Hz (ze1 h5 hbb);have C4:=Hz (ze1 h6 hbb2);have C5:=Hz (ze1 h7 hbb2);have C6:=Hz (ze1 h8 hbb2);go_wp2_with fail
   refine zam New [(true,0),(true,1),(true,2),(true,3),(true,4),(true,5),(true,6),(true,7),(true,8)]
    New.refl New.trans (by kernel_rfl) (by kernel_rfl) (by kernel_rfl) (by kernel_rfl) ?_
   repeat(first
    |(refine zaq rfl rfl (v:=?_) (fun W hW=>?_) ?_;rotate_left;(have g1:=C1.out W hW;have g2:=C2.out W hW;have g3:=C3.out W hW;have g4:=C4.out W hW;have g5:=C5.out W hW;have g6:=C6.out W hW;go_simp<;> with_reducible rfl);simp only[Act.put,List.setIfInBounds_toArray,List.set_cons_zero,List.set_cons_succ]))
   refine zb2 ?_;go_wp2
   go_roundw
   case rel=>exact⟨k+1,q+1,by go_num,by omega,rfl⟩
   case measure=>simp[intOf];omega
  ·go_wp2
   go_ret
   exact⟨rfl,zel _ _⟩
set_option maxRecDepth 100000 in
theorem z80{w:World}{A:Option Addr}{n c:Nat}{L:List za1}(h:Reads w w.heap.size 3 A n (recs zhq L))(hL:∀x∈L,(∀z∈x.1,z<256)/\x.1.length<=140737488351232)(hn:n<=4611686018427387903):
 Calls Tryz.prog 59 #[.slice A n c] w (zak (.int .i64 (zb5 L)) w):=by
 obtain rfl:=h.lenC;by_cases hm:64<L.length
 ·rw[zop hm]
  go_enter Tryz.func59,Tryz.ntmps59
  go_wp2
  go_ret
  exact⟨rfl,New.refl _⟩
 ·have HO:=Hz (zq9 hm)
  generalize zb5 L=O at*;go_enter Tryz.func59,Tryz.ntmps59
  go_wp2
  go_loopw [3] (fun i wr=>∃k q:Nat,i= .int .i64 (k:Int)/\k<=L.length/\wr=w.drewN q/\Hid (O=zff (L.take k) (L.drop k))) (fun i _=>L.length-(intOf i).toNat)
  case atStart=>exact⟨0,0,rfl,by omega,rfl,HO⟩
  case round=>
   obtain⟨k,q,rfl,hk,rfl,H⟩:=hrel;by_cases hlt:k<L.length
   ·obtain⟨ad,rfl,hbk,c0,c1,c2⟩:=(h.drewN q).colT hlt
    have hx:(L.getD k ([],0,false))∈L:=by rw[List.getD_eq_getElem?_getD,List.getElem?_eq_getElem hlt];exact List.getElem_mem hlt
    obtain⟨y1,y2⟩:=hL _ hx;have S:=H.out;rw[zoq L k hlt] at S;have HS:=Hz S;have ck1:=Hz (fun(hh:zdm (L.take k) (nm L k))=>show zhw (L.take k) (nm L k) (L.getD k ([],0,false)).2.1=1 by rw[zhw,if_pos hh]);have ck2:=Hz (fun(hh: ¬zdm (L.take k) (nm L k))=>show zhw (L.take k) (nm L k) (L.getD k ([],0,false)).2.1=if 0<=(L.getD k ([],0,false)).2.1/\(L.getD k ([],0,false)).2.1<=3 then 0 else 3 by rw[zhw,if_neg hh]);generalize zhw (L.take k) (nm L k) (L.getD k ([],0,false)).2.1=ck at*;unfold nm at*;have LL:=Hz (show∀j,j<L.length-> ∀z∈(L.getD j ([],0,false)).1,z<256 from fun j hj=>(hL _ (by rw[List.getD_eq_getElem?_getD,List.getElem?_eq_getElem hj];exact List.getElem_mem hj)).1);have Y1:=Hz y1;generalize hs2:(L.getD k ([],0,false)).1=s2 at*;generalize ht2:(L.getD k ([],0,false)).2.1=t2 at*;have HT2:=Hz ht2;generalize(L.getD k ([],0,false)).2.2=n2 at*;clear ht2;have HSS:=Hz hs2;have z1:=za4 s2;clear S H hx hs2 y1 hL;have hiz:(k:Int)<(L.length:Int):=by omega
    have g0:(zac s2).toList.isEmpty=decide (s2.length=0):=by rw[zes];cases s2<;> simp
    have hcb:s2.length=0\/(¬s2.length=0/\100<s2.length)\/(¬s2.length=0/\ ¬100<s2.length):=by omega
    rcases hcb with hb|⟨hb,hb2⟩|⟨hb,hb2⟩
    case' inl=>have HI:=Hz (show true=decide (zdm (L.take 0) s2) from(decide_eq_true (Or.inl hb)).symm)
    case' inr.inl=>have HI:=Hz (show true=decide (zdm (L.take 0) s2) from(decide_eq_true (Or.inr (Or.inl hb2))).symm)
    case' inr.inr=>have HI:=Hz (show false=decide (zdm (L.take 0) s2) from(decide_eq_false (by
     rintro(h'|h'|h')
     ·exact hb h'
     ·exact hb2 h'
     ·simp at h')).symm)
    all_goals
     first
      |(rw[decide_eq_true hb] at g0;have g1:(zac s2).toList=[]:=by simpa using g0)
      |(rw[decide_eq_false hb] at g0;have g1: ¬(zac s2).toList=[]:=by simpa using g0)
     try(have g2:decide (100<(s2.length:Int))=true:=by simp;omega)
     try(have g2:decide (100<(s2.length:Int))=false:=by simp;omega)
     clear hb;go_wp2
     clear g0 g1;go_loopw [4,5] (fun v i wr=>∃(j q':Nat) (bb:Bool),i= .int .i64 (j:Int)/\j<=k/\v= .bool bb/\wr=w.drewN q'/\Hid (bb=decide (zdm (L.take j) s2))) (fun _ i _=>k-(intOf i).toNat)
     case atStart=>exact⟨0,q,_,rfl,by omega,rfl,rfl,HI⟩
     case round=>
      obtain⟨j,q',bb,rfl,hj,rfl,rfl,HJ⟩:=hrel;by_cases hlj:j<k
      ·have NS:=Hz (zu6 (s:=s2) (show j<L.length by omega))
       obtain⟨ad1,e1,hbk1,c01,_,_⟩:=(h.drewN q').colT (show j<L.length by omega);injection e1 with e1;subst e1;obtain⟨ad2,e2,hbk2,c02,_,_⟩:=(h.drewN q').colT hlt;injection e2 with e2;subst e2;rw[HSS.out] at c02;have hq:=qi0 (L.getD j ([],0,false)).1 s2 (LL.out j (by omega)) Y1.out;unfold nm at NS;generalize(L.getD j ([],0,false)).1=s3 at*;have hiz1:(j:Int)<(L.length:Int):=by omega
       have hbx:(ad.add (j*3)).block<(w.drewN q').drew.heap.size:=by rw[za0];exact hbk
       have hbx2:(ad.add (k*3)).block<(w.drewN q').drew.heap.size:=by rw[za0];exact hbk
       have C1:=Hz (ze1 c01 hbx);have C2:=Hz (ze1 c02 hbx2);have hcc:bb=true\/(bb=false/\s3=s2)\/(bb=false/\ ¬s3=s2):=by
        cases bb
        ·by_cases he:s3=s2
         ·exact .inr (.inl ⟨rfl,he⟩)
         ·exact .inr (.inr ⟨rfl,he⟩)
        ·exact .inl rfl
       rcases hcc with rfl|⟨rfl,he⟩|⟨rfl,he⟩
       ·have HN:=Hz (show true=decide (zdm (L.take (j+1)) s2) by
         rw[eq_comm,decide_eq_true_eq,NS.out];exact .inl (of_decide_eq_true HJ.out.symm))
        go_wp2_with fail
        refine zam New [(true,0),(true,1),(true,2),(true,3),(true,4),(true,5),(true,6),(true,7),(true,8),(true,9),(true,10),(true,11),(true,12),(true,13),(true,14)]
         New.refl New.trans (by kernel_rfl) (by kernel_rfl) (by kernel_rfl) (by kernel_rfl) ?_
        repeat(first
         |(refine zh8 rfl rfl ?_;simp only[Act.put,List.setIfInBounds_toArray,List.set_cons_zero,List.set_cons_succ])
         |(refine zaq rfl rfl (v:=?_) (fun W hW=>?_) ?_;rotate_left;(go_simp<;> with_reducible rfl);simp only[Act.put,List.setIfInBounds_toArray,List.set_cons_zero,List.set_cons_succ]))
        refine zb2 ?_;go_wp2
        go_roundw
        case rel=>exact⟨j+1,q'+1,true,by go_num,by omega,rfl,rfl,HN⟩
        case measure=>simp[intOf];omega
       ·have HN:=Hz (show true=decide (zdm (L.take (j+1)) s2) by
         rw[eq_comm,decide_eq_true_eq,NS.out];exact .inr he)
        rw[decide_eq_true he] at hq;clear he;go_wp2_with fail
        refine zam New [(true,0),(true,1),(true,2),(true,3),(true,4),(true,5),(true,6),(true,7),(true,8),(true,9),(true,10),(true,11),(true,12),(true,13),(true,14)]
         New.refl New.trans (by kernel_rfl) (by kernel_rfl) (by kernel_rfl) (by kernel_rfl) ?_
        repeat(first
         |(refine zaq rfl rfl (v:=?_) (fun W hW=>?_) ?_;rotate_left;(have g1:=C1.out W hW;have g2:=C2.out W hW;go_simp<;> with_reducible rfl);simp only[Act.put,List.setIfInBounds_toArray,List.set_cons_zero,List.set_cons_succ]))
        refine zb2 ?_;go_wp2
        go_roundw
        case rel=>exact⟨j+1,q'+1,true,by go_num,by omega,rfl,rfl,HN⟩
        case measure=>simp[intOf];omega
       ·have HN:=Hz (show false=decide (zdm (L.take (j+1)) s2) by
         rw[eq_comm,decide_eq_false_iff_not,NS.out];rintro(hh|hh)
         ·exact of_decide_eq_false HJ.out.symm hh
         ·exact he hh)
        rw[decide_eq_false he] at hq;clear he;go_wp2_with fail
        refine zam New [(true,0),(true,1),(true,2),(true,3),(true,4),(true,5),(true,6),(true,7),(true,8),(true,9),(true,10),(true,11),(true,12),(true,13),(true,14)]
         New.refl New.trans (by kernel_rfl) (by kernel_rfl) (by kernel_rfl) (by kernel_rfl) ?_
        repeat(first
         |(refine zaq rfl rfl (v:=?_) (fun W hW=>?_) ?_;rotate_left;(have g1:=C1.out W hW;have g2:=C2.out W hW;go_simp<;> with_reducible rfl);simp only[Act.put,List.setIfInBounds_toArray,List.set_cons_zero,List.set_cons_succ]))
        refine zb2 ?_;go_wp2
        go_roundw
        case rel=>exact⟨j+1,q'+1,false,by go_num,by omega,rfl,rfl,HN⟩
        case measure=>simp[intOf];omega
      ·obtain rfl:j=k:=by omega
       obtain⟨ad1,e1,hbk1,c01,c02,_⟩:=(h.drewN q').colT hlt;injection e1 with e1;subst e1;rw[HT2.out] at c02;have HJ:=HJ.out;cases bb
       ·have hnb:=of_decide_eq_false HJ.symm
        have hck:=ck2.out hnb;clear HJ hnb;by_cases ht:0<=t2/\t2<=3
        ·rw[if_pos ht] at hck
         have HN:=Hz (show O=zff (L.take (j+1)) (L.drop (j+1)) by rw[HS.out,if_pos hck]);have g3:decide (t2<0)=false:=by simp;omega
         have g4:decide (3<t2)=false:=by simp;omega
         clear hck HS ck1 ck2 ht;go_wp2
         go_roundw
         case rel=>exact⟨j+1,q',by go_num,by omega,rfl,HN⟩
         case measure=>simp[intOf];omega
        ·rw[if_neg ht] at hck
         have HN:=Hz (show O=3 by rw[HS.out,hck,if_neg (by omega)]);have ht2:t2<0\/(¬t2<0/\3<t2):=by omega
         clear hck HS ck1 ck2 ht;rcases ht2 with ht2|⟨ht2,ht3⟩
         ·go_wp2
          go_ret
          exact⟨by rw[HN.out];rfl,zel _ _⟩
         ·have g3:decide (t2<0)=false:=decide_eq_false ht2
          go_wp2
          go_ret
          exact⟨by rw[HN.out];rfl,zel _ _⟩
       ·have hnb:=of_decide_eq_true HJ.symm
        have hck:=ck1.out hnb;have HN:=Hz (show O=1 by rw[HS.out,hck,if_neg (by omega)]);clear HJ hnb hck HS ck1 ck2;go_wp2
        go_ret
        exact⟨by rw[HN.out];rfl,zel _ _⟩
   ·obtain rfl:k=L.length:=by omega
    have HS2:=Hz (show O=0 by rw[H.out,zra]);go_wp2
    go_ret
    exact⟨by rw[HS2.out];rfl,zel _ _⟩
end Go.Proofs.Y
