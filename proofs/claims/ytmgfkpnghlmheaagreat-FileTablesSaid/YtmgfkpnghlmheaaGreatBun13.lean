/- Merged. -/
import Derived.Test.YtmgfkpnghlmheaaGreatBun10
import Derived.Test.YtmgfkpnghlmheaaGreatBun12
set_option maxHeartbeats 2000000
namespace Go.Hm
theorem zof{N b:Nat}{r s:List Nat}(h:b::s=vp N++r)(hb:b<128):N=b/\r=s:=by
 by_cases hN:N<128
 ·rw[zez hN] at h
  simp only[List.cons_append,List.nil_append,List.cons.injEq] at h;exact⟨h.1.symm,h.2.symm⟩
 ·rw[zfr hN] at h
  simp only[List.cons_append,List.cons.injEq] at h;omega
theorem zog{N b:Nat}{r s:List Nat}(h:b::s=vp N++r)(hb:128<=b):N%128+128=b/\0<N/128/\s=vp (N/128)++r:=by
 by_cases hN:N<128
 ·rw[zez hN] at h
  simp only[List.cons_append,List.nil_append,List.cons.injEq] at h;omega
 ·rw[zfr hN] at h
  simp only[List.cons_append,List.cons.injEq] at h;exact⟨h.1.symm,by omega,h.2⟩
theorem qfc{b N:Nat}(hb:128<=b)(h8:b<256)(hN:0<N):b::vp N=vp (b-128+128*N):=by
 rw[zfr (n:=b-128+128*N) (by omega)];congr 1
 ·omega
 ·congr 1;omega
theorem z1g:∀(k M N:Nat) (r s:List Nat),M<=k->vp M++r=vp N++s->M=N/\r=s:=by
 intro k;induction k using Nat.strongRecOn with
 |ind k ih=>
  intro M N r s hk h;by_cases hM:M<128
  ·rw[zez hM] at h
   have:=zof h hM;exact⟨this.1.symm,this.2.symm⟩
  ·rw[zfr hM] at h
   have h1:=zog h (by omega);have h2:=ih (M/128) (by omega) _ _ _ _ (Nat.le_refl _) h1.2.2;exact⟨by omega,h2.2⟩
def VIn(l:List Nat)(k v:Nat)(rl:List Nat):Prop:=
 v<128^k/\(∀N r,l=vp N++r-> ∃N',N=v+128^k*N'/\(k=0\/0<N')/\rl=vp N'++r)/\
 (∀N r,(k=0\/0<N)->rl=vp N++r->l=vp (v+128^k*N)++r)
theorem VIn.zero(l:List Nat):VIn l 0 0 l:=⟨by simp,fun N r h=>⟨N,by simp,.inl rfl,h⟩,fun N r _ h=>by simpa using h⟩
theorem VIn.step{l rl:List Nat}{k v b:Nat}(h:VIn l k v (b::rl))(hb:128<=b)(h8:b<256):VIn l (k+1) (v+128^k*(b-128)) rl:=by
 obtain⟨h1,h2,h3⟩:=h;have hp:128^(k+1)=128^k*128:=Nat.pow_succ ..;have hm:128^k*(b-128)<=128^k*127:=Nat.mul_le_mul_left _ (by omega);refine⟨by omega,fun N r e=>?_,fun N r hN e=>?_⟩
 ·obtain⟨N',e1,e2,e3⟩:=h2 N r e
  obtain⟨f1,f2,f3⟩:=zog e3 hb;refine⟨N'/128,?_,.inr f2,f3⟩;rw[e1,hp,Nat.mul_assoc,Nat.add_assoc,<-Nat.mul_add];congr 2
  omega
 ·have hN':0<N:=by rcases hN with hN|hN<;> omega
  have:=h3 (b-128+128*N) r (.inr (by omega)) (by rw[e,<-qfc hb h8 hN',List.cons_append]);rw[this,Nat.mul_add,hp,Nat.mul_assoc,Nat.add_assoc]
theorem VIn.done{l rl:List Nat}{k v b:Nat}(h:VIn l k v (b::rl))(hb:b<128)(hk:k=0\/0<b):l=vp (v+128^k*b)++rl:=
 h.2.2 b rl hk (by rw[zez hb];rfl)
theorem VIn.not_zero{l rl:List Nat}{k v:Nat}(h:VIn l k v (0::rl))(hk:0<k):∀N r,l=vp N++r->18446744073709551616<=N:=by intro N r e;obtain⟨N',_,e2,e3⟩:=h.2.1 N r e;have:=zof e3 (by omega);omega
theorem VIn.not_nil{l:List Nat}{k v:Nat}(h:VIn l k v []):∀N r,l=vp N++r->18446744073709551616<=N:=by intro N r e;obtain⟨N',_,_,e3⟩:=h.2.1 N r e;have:=zma N';have:=congrArg List.length e3;simp at this;omega
theorem VIn.not_big{l rl:List Nat}{v b:Nat}(h:VIn l 9 v (b::rl))(hb:1<b):∀N r,l=vp N++r->18446744073709551616<=N:=by
 intro N r e;obtain⟨N',e1,e2,e3⟩:=h.2.1 N r e;by_cases hlt:b<128
 ·have:=(zof e3 hlt).1
  omega
 ·have:=zog e3 (by omega)
  omega
theorem qdt(k:Nat):(128:Nat)^k=2^(7*k):=by rw[Nat.pow_mul]
theorem VIn.fits{k v b:Nat}(hv:v<128^k)(hb:b<128)(hk:k<=8\/(k<=9/\b<=1)):v+128^k*b<18446744073709551616:=by
 rcases hk with hk|⟨hk,hb1⟩
 ·have h1:(128:Nat)^k<=128^8:=Nat.pow_le_pow_right (by omega) hk
  have h2:128^k*b<=128^8*b:=Nat.mul_le_mul_right _ h1;omega
 ·have h1:(128:Nat)^k<=128^9:=Nat.pow_le_pow_right (by omega) hk
  have h2:128^k*b<=128^9*b:=Nat.mul_le_mul_right _ h1;omega
theorem z4z(b:Nat)(h:b<256):bits .andNot .u8 (b:Int) 128=((b%128:Nat):Int):=by have:=u8_andNot_nat b 128 h (by omega);rw[show 255-128=127 from rfl,nat_mask7] at this;simpa using this
theorem qfd{k v b:Nat}(hv:v<128^k)(hb:b<128)(hk:k<=8\/(k<=9/\b<=1)):
 bits .or .u64 (v:Int) ((b:Int)*2^(7*k)%18446744073709551616)=((v+128^k*b:Nat):Int):=by
 have hf:=VIn.fits hv hb hk;have e2:(b:Int)*2^(7*k)=((b*2^(7*k):Nat):Int):=by simp
 have e0:128^k*b=b*2^(7*k):=by rw[qdt,Nat.mul_comm]
 rw[e2,show(((b*2^(7*k):Nat):Int)%18446744073709551616)=((b*2^(7*k):Nat):Int) from Int.emod_eq_of_lt (by omega) (by omega),
  u64_or_nat v (b*2^(7*k)) (by omega) (by omega),Nat.or_comm,qdo b v (7*k) (by rw[<-qdt];exact hv),e0,Nat.add_comm]
theorem zy4{k v b:Nat}(hv:v<128^k)(h8:b<256)(hk:k<=8\/(k<=9/\b%128<=1)):
 bits .or .u64 (v:Int) (IntKind.u64.wrap (IntKind.u64.wrap (bits .andNot .u8 (b:Int) 128)*2^(7*k)))=((v+128^k*(b%128):Nat):Int):=by
 rw[z4z b h8,IntKind.wrap_u64,IntKind.wrap_u64,show(((b%128:Nat):Int)%18446744073709551616)=((b%128:Nat):Int) from by omega];exact qfd hv (by omega) hk
end Go.Hm
namespace Go.Proofs.Y
open Go.RowKit Go.Hm
def qfe(g:Nat)(l:List Nat)(w:World)(e:Ending)(w':World):Prop:=
 (∃N r,l=vp N++r/\N<18446744073709551616/\e= .returned (.int .u64 (N:Int))/\Cur w' g r false/\w.grownBy w' (some g))\/
 ((∀N r,l=vp N++r->18446744073709551616<=N)/\e= .returned (.int .u64 0)/\Cur w' g [] true/\w.grownBy w' (some g))
def qix(g:Nat)(l:List Nat)(w:World)(a:Act)(w':World):Prop:=
 ∃(u1 u2 u3 u4 u5 u6 u7 u8 u9 u10 u11 u12 u13 u14 u15 u16 u17 u18 u19 u20 u21 u22 u23 u24 u25 u26 u27 u28 u29 u30 u31 u32 u33 u34 u35 u36 u37 u38 u39 u40 u41:Value) (rl:List Nat) (bad:Bool),a={tmps:= #[.pointer (some ⟨g,0,none⟩),u1,u2,u3,u4,u5,u6,u7,u8,u9,u10,u11,u12,u13,u14,u15,u16,u17,u18,u19,u20,u21,u22,u23,u24,u25,u26,u27,u28,u29,u30,u31,u32,u33,u34,u35,u36,u37,u38,u39,u40,u41],defers:=[]}/\Cur w' g rl bad/\w.grownBy w' (some g)/\(∀N r,l=vp N++r->18446744073709551616<=N)
theorem Cur.lt8{w:World}{g:Nat}{l:List Nat}{bad:Bool}(h:Cur w g l bad):∀x∈l,x<256:=by obtain⟨A,c,_,_,_,_,h5,_⟩:=h;exact h5
set_option maxRecDepth 100000 in
theorem z40{w:World}{g:Nat}{l:List Nat}(h:Cur w g l false)(h8:∀x∈l,x<256):
 Calls Tryz.prog 111 #[.pointer (some ⟨g,0,none⟩)] w (qfe g l w):=by
 go_enter Tryz.func111,Tryz.ntmps111
 go_wp2
 refine wp_scope_jumps 0 (qix g l w) (fun _ _=>0) rfl ?_ ?_
 ·go_wp2
  go_loopw [3,4] (fun v i wr=>∃(k x:Nat) (rl:List Nat),i= .int .i64 ((7*k:Nat):Int)/\k<=9/\v= .int .u64 (x:Int)/\VIn l k x rl/\(∀y∈rl,y<256)/\Cur wr g rl false/\w.grownBy wr (some g)) (fun _ i _=>100-(intOf i).toNat)
  case atStart=>exact⟨0,0,l,rfl,by omega,rfl,VIn.zero l,h8,h,Far.refl g w⟩
  case round=>
   obtain⟨k,x,rl,rfl,hk,rfl,hV,h8',hC,hg⟩:=hrel;have HV:=Hz hV;cases rl with
   |nil=>
    have B:=Hz (zm8 hC (.inr (by simp)));go_wp2_with (first
     |(go_at_call 122;refine B.out.mono ?_;rintro e w1 ⟨rfl,C1,g1⟩
       have hB:=Hz (zjv C1))
     |(go_at_call 80;refine hB.out.mono ?_;rintro e w2 ⟨rfl,rfl⟩)
     |go_step3)
    exact⟨rfl,_,_,_,_,_,_,_,_,_,_,_,_,_,_,_,_,_,_,_,_,_,_,_,_,_,_,_,_,_,_,_,_,_,_,_,_,_,_,_,_,_,_,_,rfl,C1,Far.trans hg g1,HV.out.not_nil⟩
   |cons b rl=>
    have hb8:b<256:=h8' b (by simp);have B:=Hz (zyo hC);have hx:=hV.1;clear hV;by_cases hz:0<k/\b=0
    ·obtain⟨hz,rfl⟩:=hz
     go_wp2_with (first
      |(go_at_call 122;refine B.out.mono ?_;rintro e w1 ⟨rfl,C1,g1⟩
        have hB:=Hz (zjv C1))
      |(go_at_call 80;refine hB.out.mono ?_;rintro e w2 ⟨rfl,rfl⟩)
      |go_step3)
     all_goals first
      |(exfalso;omega)
      |exact⟨rfl,_,_,_,_,_,_,_,_,_,_,_,_,_,_,_,_,_,_,_,_,_,_,_,_,_,_,_,_,_,_,_,_,_,_,_,_,_,_,_,_,_,_,_,rfl,C1,Far.trans hg g1,HV.out.not_zero hz⟩
    ·by_cases h9:k=9
     ·subst h9
      by_cases hb1:1<b
      ·go_wp2_with (first
       |(go_at_call 122;refine B.out.mono ?_;rintro e w1 ⟨rfl,C1,g1⟩
         have hB:=Hz (zjv C1))
       |(go_at_call 80;refine hB.out.mono ?_;rintro e w2 ⟨rfl,rfl⟩)
       |go_step3)
       all_goals first
        |(exfalso;omega)
        |exact⟨rfl,_,_,_,_,_,_,_,_,_,_,_,_,_,_,_,_,_,_,_,_,_,_,_,_,_,_,_,_,_,_,_,_,_,_,_,_,_,_,_,_,_,_,_,rfl,C1,Far.trans hg g1,HV.out.not_big hb1⟩
      ·have HO:=zy4 hx hb8 (.inr ⟨by omega,by omega⟩)
       rw[show(2:Int)^(7*9)=9223372036854775808 from by decide,show b%128=b from by omega] at HO;go_wp2_with (first
        |(go_at_call 122;refine B.out.mono ?_;rintro e w1 ⟨rfl,C1,g1⟩
          have hB:=Hz (zjv C1))
        |(go_at_call 80;refine hB.out.mono ?_;rintro e w2 ⟨rfl,rfl⟩)
        |go_step3)
       all_goals first
        |(rename_i hq;exfalso;rcases hq with hq|hq;(simp at hq;omega);omega)
        |(simp only[Exit.jump];go_ret
          exact .inl ⟨_,_,HV.out.done (by omega) (.inl (by omega)),VIn.fits hx (by omega) (.inr ⟨by omega,by omega⟩),by simp,C1,Far.trans hg g1⟩)
        |(simp only[Exit.jump];go_ret
          exact .inl ⟨_,_,HV.out.done (by omega) (.inr (by omega)),VIn.fits hx (by omega) (.inr ⟨by omega,by omega⟩),by simp,C1,Far.trans hg g1⟩)
     ·have HO:=zy4 hx hb8 (.inl (by omega))
      go_wp2_with (first
       |(go_at_call 122;refine B.out.mono ?_;rintro e w1 ⟨rfl,C1,g1⟩
         have hB:=Hz (zjv C1))
       |(go_at_call 80;refine hB.out.mono ?_;rintro e w2 ⟨rfl,rfl⟩)
       |go_step3)
      all_goals first
       |(exfalso;omega)
       |(simp only[Exit.jump];go_ret
         exact .inl ⟨x+128^k*b,rl,HV.out.done (by omega) (by omega),VIn.fits hx (by omega) (.inl (by omega)),by rw[show((b:Int)%128)=(b:Int) from by omega];simp,C1,Far.trans hg g1⟩)
       |(go_roundw
         case rel=>exact⟨k+1,x+128^k*(b-128),rl,by go_num,by omega,by rw[show((b:Int)%128)=((b-128:Nat):Int) from by omega];simp,HV.out.step (by omega) hb8,fun y hy=>h8' y (List.mem_cons_of_mem _ hy),C1,Far.trans hg g1⟩
         case measure=>simp[intOf];omega)
 ·rintro a' w' ⟨u,u,u,u,u,u,u,u,u,u,u,u,u,u,u,u,u,u,u,u,u,u,u,u,u,u,u,u,u,u,u,u,u,u,u,u,u,u,u,u,u,rl,bad,rfl,C1,hg,hno⟩
  have hF:=Hz (zhk C1);go_wp2_with (go_at_call 110;refine hF.out.mono ?_;rintro e w2 ⟨rfl,C2,g2⟩)
  simp only[Exit.jump];go_ret
  exact .inr ⟨hno,rfl,C2,Far.trans hg g2⟩
set_option maxRecDepth 100000 in
theorem qff{w:World}{g:Nat}{l:List Nat}{bad:Bool}(h:Cur w g l bad)(hn:bad=true\/l.length<1):
 Calls Tryz.prog 111 #[.pointer (some ⟨g,0,none⟩)] w (zdd (.returned (.int .u64 0)) g [] true w):=by
 have B:=Hz (zm8 h hn);clear hn;go_enter Tryz.func111,Tryz.ntmps111
 go_wp2
 refine wp_scope_jumps 0 (qix g [] w) (fun _ _=>0) rfl ?_ ?_
 ·go_wp2
  refine wp_loop_rounds 1 ?_;rw[rounds_succ];go_wp2_with (first
   |(go_at_call 122;refine B.out.mono ?_;rintro e w1 ⟨rfl,C1,g1⟩
     have hB:=Hz (zjv C1))
   |(go_at_call 80;refine hB.out.mono ?_;rintro e w2 ⟨rfl,rfl⟩)
   |go_step3)
  exact⟨rfl,_,_,_,_,_,_,_,_,_,_,_,_,_,_,_,_,_,_,_,_,_,_,_,_,_,_,_,_,_,_,_,_,_,_,_,_,_,_,_,_,_,_,_,rfl,C1,g1,(VIn.zero []).not_nil⟩
 ·rintro a' w' ⟨u,u,u,u,u,u,u,u,u,u,u,u,u,u,u,u,u,u,u,u,u,u,u,u,u,u,u,u,u,u,u,u,u,u,u,u,u,u,u,u,u,rl,bad',rfl,C1,hg,hno⟩
  have hF:=Hz (zhk C1);go_wp2_with (go_at_call 110;refine hF.out.mono ?_;rintro e w2 ⟨rfl,C2,g2⟩)
  simp only[Exit.jump];go_ret
  exact⟨rfl,C2,Far.trans hg g2⟩
theorem zw4{w:World}{g N:Nat}{r:List Nat}(h:Cur w g (vp N++r) false)(hN:N<18446744073709551616):
 Calls Tryz.prog 111 #[.pointer (some ⟨g,0,none⟩)] w (zdd (.returned (.int .u64 (N:Int))) g r false w):=
 (z40 h h.lt8).mono fun e w' hp=>by
  rcases hp with⟨M,s,h1,h2,h3,h4,h5⟩|⟨h1,_⟩
  ·obtain⟨rfl,rfl⟩:=z1g N N M r s (Nat.le_refl _) h1
   exact⟨h3,h4,h5⟩
  ·have:=h1 N r rfl
   omega
theorem z41{w:World}{g:Nat}{l:List Nat}{bad:Bool}(h:Cur w g l bad)(hN:bad=true\/ ∀N r,l=vp N++r->18446744073709551616<=N):
 Calls Tryz.prog 111 #[.pointer (some ⟨g,0,none⟩)] w (zdd (.returned (.int .u64 0)) g [] true w):=by
 cases bad with
 |true=>exact qff h (.inl rfl)
 |false=>
  refine(z40 h h.lt8).mono fun e w' hp=>?_
  rcases hp with⟨M,s,h1,h2,h3,h4,h5⟩|⟨h1,h2,h3,h4⟩
  ·rcases hN with hN|hN
   ·simp at hN
   ·have:=hN M s h1
    omega
  ·exact⟨h2,h3,h4⟩
theorem qfg{w:World}{g N:Nat}{r:List Nat}{m:Int}(h:Cur w g (vp N++r) false)(hN:(N:Int)<=m)(hm:m<=9223372036854775807):
 Calls Tryz.prog 79 #[.pointer (some ⟨g,0,none⟩),.int .i64 m] w (zdd (.returned (.int .i64 (N:Int))) g r false w):=by
 have G:=Hz (zw4 h (by omega));go_enter Tryz.func79,Tryz.ntmps79
 go_wp2_with (go_at_call 111;refine G.out.mono ?_;rintro e w1 ⟨rfl,C1,g1⟩)
 go_ret
 exact⟨rfl,C1,g1⟩
theorem qg8{w:World}{g:Nat}{l:List Nat}{bad:Bool}{m:Int}(h:Cur w g l bad)(hN:bad=true\/ ∀N r,l=vp N++r->m<N)(hm0: -9223372036854775808<=m)(hm:m<=9223372036854775807):
 Calls Tryz.prog 79 #[.pointer (some ⟨g,0,none⟩),.int .i64 m] w (zdd (.returned (.int .i64 0)) g [] true w):=by
 by_cases hG:bad=true\/ ∀N r,l=vp N++r->18446744073709551616<=N
 ·have G:=Hz (z41 h hG)
  clear hG hN;go_enter Tryz.func79,Tryz.ntmps79
  by_cases hm1:m<0
  ·go_wp2_with (first
    |(go_at_call 111;refine G.out.mono ?_;rintro e w1 ⟨rfl,C1,g1⟩
      have hF:=Hz (zhk C1))
    |(go_at_call 110;refine hF.out.mono ?_;rintro e w2 ⟨rfl,C2,g2⟩))
   go_ret
   exact⟨rfl,C2,Far.trans g1 g2⟩
  ·go_wp2_with (first
    |(go_at_call 111;refine G.out.mono ?_;rintro e w1 ⟨rfl,C1,g1⟩))
   go_ret
   exact⟨rfl,C1,g1⟩
 ·simp only[not_or,Classical.not_forall] at hG
  obtain⟨hb,N,r,rfl,hlt⟩:=hG;have hb':bad=false:=by simpa using hb
  subst hb';have hmN:m<N:=by rcases hN with hN|hN;exact absurd hN hb;exact hN N r rfl
  have G:=Hz (zw4 h (by omega));clear hN hb;go_enter Tryz.func79,Tryz.ntmps79
  by_cases hm1:m<0
  ·go_wp2_with (first
    |(go_at_call 111;refine G.out.mono ?_;rintro e w1 ⟨rfl,C1,g1⟩
      have hF:=Hz (zhk C1))
    |(go_at_call 110;refine hF.out.mono ?_;rintro e w2 ⟨rfl,C2,g2⟩))
   go_ret
   exact⟨rfl,C2,Far.trans g1 g2⟩
  ·go_wp2_with (first
    |(go_at_call 111;refine G.out.mono ?_;rintro e w1 ⟨rfl,C1,g1⟩
      have hF:=Hz (zhk C1))
    |(go_at_call 110;refine hF.out.mono ?_;rintro e w2 ⟨rfl,C2,g2⟩))
   go_ret
   exact⟨rfl,C2,Far.trans g1 g2⟩
open Go.RowKit Go.Hm
def RCur(w:World)(B g:Nat)(l:List Nat)(bad:Bool):Prop:=
 ∃A c,Blk w g 95 #[.slice A l.length c,.bool bad]/\l.length<=c/\c<=maxLen/\Reads w B 1 A l.length (za3 .u8 l)/\B<=g/\(∀x∈l,x<256)
section
variable{w w':World}{B g:Nat}{l:List Nat}{bad:Bool}
theorem RCur.lt(h:RCur w B g l bad):g<w.heap.size:=by obtain⟨A,c,h1,_⟩:=h;exact h1.lt
theorem RCur.lt8(h:RCur w B g l bad):∀x∈l,x<256:=by obtain⟨A,c,_,_,_,_,_,h6⟩:=h;exact h6
theorem RCur.below(h:RCur w B g l bad)(hb:Below w.heap.size w w'):RCur w' B g l bad:=by obtain⟨A,c,h1,h2,h3,h4,h5,h6⟩:=h;exact⟨A,c,h1.below hb h1.lt,h2,h3,h4.below (hb.mono (by have:=h1.lt;omega)),h5,h6⟩
theorem RCur.keep{g':Nat}(h:RCur w B g l bad)(hg:w.grownBy w' (some g'))(hB:B<=g')(hne:g≠g'):RCur w' B g l bad:=by obtain⟨A,c,h1,h2,h3,h4,h5,h6⟩:=h;exact⟨A,c,h1.grown hg (by simpa using hne),h2,h3,h4.grown hg (by have:=h1.lt;omega) (fun g e=>by injection e with e;omega),h5,h6⟩
theorem RCur.blk(h:RCur w B g l bad):∃cs,Blk w g 95 cs:=by obtain⟨A,c,h1,_⟩:=h;exact⟨_,h1⟩
end
end Go.Proofs.Y
namespace Go.Hm
end Go.Hm
namespace Go.Proofs.Y
open Go.RowKit Go.Hm
def OverNew(l:List Nat)(w:World)(e:Ending)(w':World):Prop:=
 ∃g A c,e= .returned (.pointer (some ⟨g,0,none⟩))/\w.heap.size<=g/\Blk w' g 154 #[.slice A l.length c,.bool false]/\Own w' w.heap.size 5 (.slice A l.length c) (za3 .u8 l)/\Below w.heap.size w w'
theorem OverNew.cur{w:World}{g:Nat}{l:List Nat}{A:Option Addr}{c base:Nat}(h:Blk w g 154 #[.slice A l.length c,.bool false])(k:Own w base 5 (.slice A l.length c) (za3 .u8 l))(h8:∀x∈l,x<256):Cur w g l false:=by have hc:=k.cap;exact⟨A,c,h,hc.1,hc.2,TR.of_own k,h8,by simp⟩
end Go.Proofs.Y
namespace Go.Hm
open Go Go.RowKit
def eqC(a b:zab):Bool:=a.1==b.1&&(a.2.1==b.2.1&&((zad a.2.2.1).toList==(zad b.2.2.1).toList&&(a.2.2.2.1==b.2.2.2.1&&a.2.2.2.2==b.2.2.2.2)))
theorem qdx{a b:zab}(ha:∀z∈a.2.2.1,z<256)(hb:∀z∈b.2.2.1,z<256):eqC a b=decide (a=b):=by obtain⟨a0,a1,a2,a3,a4⟩:=a;obtain⟨b0,b1,b2,b3,b4⟩:=b;unfold eqC;dsimp only at*;rw[zhh ha hb,Bool.eq_iff_iff];simp
def eqS(a b:zc9):Bool:=a.1==b.1&&(a.2.1==b.2.1&&(eqC a.2.2.1 b.2.2.1&&eqC a.2.2.2 b.2.2.2))
theorem qdy{a b:zc9}(h1:∀z∈a.2.2.1.2.2.1,z<256)(h2:∀z∈a.2.2.2.2.2.1,z<256)(h3:∀z∈b.2.2.1.2.2.1,z<256)(h4:∀z∈b.2.2.2.2.2.1,z<256):eqS a b=true↔a=b:=by obtain⟨n,c,p,q⟩:=a;obtain⟨m,d,r,s⟩:=b;unfold eqS;dsimp only at*;rw[qdx h1 h3,qdx h2 h4];simp
end Go.Hm
namespace Go.Proofs.Y
open Go.RowKit Go.Hm
set_option maxRecDepth 100000 in
theorem z1y{n n':Int}{b b':Bool}{p q p' q':zab}(W:World):
 (binOp .eql 63 (zb4 (n,b,p,q)) (zb4 (n',b',p',q'))).run Tryz.prog W= .ok (.bool (eqS (n,b,p,q) (n',b',p',q'))) W:=by
 obtain⟨p1,p2,p3,p4,p5⟩:=p;obtain⟨q1,q2,q3,q4,q5⟩:=q;obtain⟨r1,r2,r3,r4,r5⟩:=p';obtain⟨s1,s2,s3,s4,s5⟩:=q';show(binOp .eql 63 (.agg #[.int .i64 n,.bool b,.bool p1,.int .i64 p2,.string (zad p3),.int .i64 p4,.int .i64 p5,.bool q1,.int .i64 q2,.string (zad q3),.int .i64 q4,.int .i64 q5]) (.agg #[.int .i64 n',.bool b',.bool r1,.int .i64 r2,.string (zad r3),.int .i64 r4,.int .i64 r5,.bool s1,.int .i64 s2,.string (zad s3),.int .i64 s4,.int .i64 s5])).run Tryz.prog W=_;go_simp
 unfold eqS eqC
 repeat' split
 all_goals simp_all
end Go.Proofs.Y
namespace Go.Hm
open Go Go.RowKit
theorem zg8{P:Program}{t:TypeId}{sz:Nat}(ht:P.underlying t=some (.slice (P.elem t)))(hs:∀w,(sizeOf (P.elem t)).run P w= .ok sz w)(A:Option Addr)(n c k m:Nat)(hk:k<=m)(hc:m<=c)(w:World):
 (Instr.sliceAt t (.slice A n c) (some (.int .i64 (k:Int))) (some (.int .i64 (m:Int))) none).run P w= .ok (.slice (if c=k then A else A.map (·.add (k*sz))) (m-k) (c-k)) w:=by
 rw[run_sliceAt_slice w t _ _ _ _ ht,run_slice_lh w t A n c ht .i64 .i64 (k:Int) (m:Int) (by omega) (by omega) (by omega),hs];simp[Result.andThen,sliced]
theorem qbu{P:Program}{t:TypeId}{sz:Nat}(ht:P.underlying t=some (.slice (P.elem t)))(hs:∀w,(sizeOf (P.elem t)).run P w= .ok sz w)(A:Option Addr)(n c m:Nat)(hc:m<=c)(w:World):
 (Instr.sliceAt t (.slice A n c) none (some (.int .i64 (m:Int))) none).run P w= .ok (.slice A m c) w:=by
 rw[run_sliceAt_slice w t _ _ _ _ ht,run_slice_h w t A n c ht .i64 (m:Int) (by omega) (by omega),hs];have e:∀a:Addr,a.add 0=a:=fun a=>by simp[Addr.add]
 cases A<;> simp[Result.andThen,sliced,e]
theorem zsz{P:Program}{t:TypeId}{sz:Nat}(ht:P.underlying t=some (.slice (P.elem t)))(hs:∀w,(sizeOf (P.elem t)).run P w= .ok sz w)(A:Option Addr)(n c k:Nat)(hk:k<=n)(w:World):
 (Instr.sliceAt t (.slice A n c) (some (.int .i64 (k:Int))) none none).run P w= .ok (.slice (if c=k then A else A.map (·.add (k*sz))) (n-k) (c-k)) w:=by
 rw[run_sliceAt_slice w t _ _ _ _ ht,run_slice_l w t A n c ht .i64 (k:Int) (by omega) (by omega),hs];simp[Result.andThen,sliced]
end Go.Hm
namespace Go.Proofs.Y
open Go.RowKit Go.Hm
set_option maxRecDepth 100000 in
theorem zx0{w:World}(x y:Int):
 Calls Tryz.prog 116 #[.agg #[.int .i64 x,.int .i64 y],.int .i64 2097152] w (zap (.bool (nearB x y)) w):=by
 obtain⟨W0,hW0⟩:∃W,W=w.alloc (.cells #[.int .i64 x,.int .i64 y] 59):=⟨_,rfl⟩;have b0:New w W0:=by rw[hW0];exact(Below.refl _ _).alloc (Nat.le_refl _) _
 have B0:Blk W0 w.heap.size 59 #[.int .i64 x,.int .i64 y]:=by rw[hW0];exact Blk.new _ _ _
 obtain⟨x0,x1⟩:=zbe B0;have HO:=Hz (show nearB x y=(decide (-2097152<=x)&&decide (x<=2097152)&&decide (-2097152<=y)&&decide (y<=2097152)) from rfl);generalize nearB x y=O at*;rw[hW0] at x0 x1;clear B0;cases h1:decide (-2097152<=x)<;> cases h2:decide (x<=2097152)<;> cases h3:decide (-2097152<=y)<;> cases h4:decide (y<=2097152);all_goals
  rw[h1,h2,h3,h4] at HO;go_enter Tryz.func116,Tryz.ntmps116
  go_wp2
  go_ret
  exact⟨by rw[HO.out];rfl,by rw[<-hW0];exact b0⟩
end Go.Proofs.Y
namespace Go.Hm
open Go Go.RowKit
section
variable{P:Program}{ops:Array Oper}{rest:List Oper}{o:Oper}{a:Act}{Q:Exit->Act->World->Prop}
theorem qcy(z:Value)(hz1:z.oneCell'=true)(n:Nat):madeCells z.cells n=(List.replicate n z).toArray:=by
 have hzc:z.cells= #[z]:=by
  revert hz1;unfold Value.oneCell' Value.cells
  cases z<;> simp
 rw[hzc];apply Array.toList_inj.1;rw[toList_madeCells_one]
theorem z8i{w:World}{t e:TypeId}{z:Value}{bytes:Nat}(E:ElT P t e z 1 bytes){kl kc:IntKind}(n:Nat)(hz1:z.oneCell'=true)(hn:n*bytes<=140737488355328)(hm:n<=maxLen):
 (Instr.makeSlice t (.int kl (n:Int)) (.int kc (n:Int))).run P w= .ok (.slice (some ⟨w.heap.size,0,none⟩) n n) (w.alloc (.cells (List.replicate n z).toArray e)):=by
 obtain⟨i,hi,hz0,hs1,hb1⟩:=info_parts E.hi;have hmC:(n:Int)<=9223372036854775807:=by have h:=hm;simp only[maxLen] at h;omega
 have hbC:(i.bytes:Int)*(n:Int)<=281474976710656:=by
  have h:((i.bytes*n:Nat):Int)<=281474976710656:=by rw[hb1,Nat.mul_comm];omega
  rwa[Int.natCast_mul] at h
 have hrun:=run_make (P:=P) w t e i z E.ht hi hz0 kl kc (n:Int) (n:Int) (by omega) (by omega) hbC hmC;rw[Int.toNat_natCast,hs1,Nat.mul_one,qcy z hz1] at hrun;exact hrun
theorem zr1{w:World}{t e:TypeId}{z:Value}{bytes:Nat}(E:ElT P t e z 1 bytes)(hgd:o.guard=none)(lo co:Operand)(ho:o.op=Op.makeSlice t lo co)
 {kl kc:IntKind}{L C:Int}(n:Nat)(hl:a.eval lo= .int kl L)(hc:a.eval co= .int kc C)(hL:L=(n:Int))(hC:C=(n:Int))
 (hz1:z.oneCell'=true)(hn:n*bytes<=140737488355328)(hm:n<=maxLen)
 (h:∀w',Blk w' w.heap.size e (List.replicate n z).toArray->New w w'->w'.heap.size=w.heap.size+1->wpList P ops Q rest (a.put o.dst (.slice (some ⟨w.heap.size,0,none⟩) n n)) w'):
 wpList P ops Q (o::rest) a w:=by
 subst hL hC;have hrun:=z8i (w:=w) E (kl:=kl) (kc:=kc) n hz1 hn hm;refine wpList_plain hgd fun K hK=>?_
 unfold Oper.wp;simp[execOp,ho,hl,hc,hrun,Result.andThen];exact hK _ _ (h _ (by simpa using Blk.new w e (List.replicate n z).toArray) ((Below.refl _ _).alloc (Nat.le_refl _) _) (by simp))
theorem zmy{w:World}{K:Act->World->Prop}{t e:TypeId}{z:Value}{bytes:Nat}(E:ElT P t e z 1 bytes)(lo co:Operand)(ho:o.op=Op.makeSlice t lo co)
 {kl kc:IntKind}{L C:Int}(n:Nat)(hl:a.eval lo= .int kl L)(hc:a.eval co= .int kc C)(hL:L=(n:Int))(hC:C=(n:Int))
 (hz1:z.oneCell'=true)(hn:n*bytes<=140737488355328)(hm:n<=maxLen)
 (h:∀w',Blk w' w.heap.size e (List.replicate n z).toArray->New w w'->w'.heap.size=w.heap.size+1->K (a.put o.dst (.slice (some ⟨w.heap.size,0,none⟩) n n)) w'):
 o.wp P a w K Q:=by
 subst hL hC;have hrun:=z8i (w:=w) E (kl:=kl) (kc:=kc) n hz1 hn hm;unfold Oper.wp;simp[execOp,ho,hl,hc,hrun,Result.andThen];exact h _ (by simpa using Blk.new w e (List.replicate n z).toArray) ((Below.refl _ _).alloc (Nat.le_refl _) _) (by simp)
theorem z3a{w:World}{ty t:TypeId}{g i:Nat}{u:Value}{cs:Array Value}(hB:Blk w g t cs)(hlt:i<cs.size)(hi:(P.info? ty).map (·.size)=some 1)(h1:u.oneCell'=true):
 (storeVar ty ⟨g,i,none⟩ u).run P w= .ok () (w.setCell ⟨g,i,none⟩ u):=by
 have hc:u.cells= #[u]:=by cases u<;> first|rfl|cases h1
 have:=run_storeCells_cells (P:=P) g i [u] 0 w (fun j hj=>by
  obtain rfl:j=0:=by simpa using hj
  rw[hB.cell,Nat.add_zero,Array.getElem?_eq_getElem hlt];rfl) (fun j hj=>hB.frozen _) (fun v hv=>by simp at hv;subst hv;exact h1)
 cases hq:P.info? ty with
 |none=>simp[hq] at hi
 |some x=>
  have hs:x.size=1:=by simpa[hq] using hi
  simp only[Nat.add_zero] at this;simp[storeVar,sizeOf,typeInfo,hq,hc,hs,this];rfl
theorem ziz{w:World}{K:Act->World->Prop}(ty:TypeId)(x y:Operand)(ho:o.op= .store ty x y)
 (g i:Nat)(u:Value)(hx:a.eval x= .pointer (some ⟨g,i,none⟩))(hy:a.eval y=u){t:TypeId}{cs:Array Value}(hB:Blk w g t cs)(hlt:i<cs.size)(hi:(P.info? ty).map (·.size)=some 1)(h1:u.oneCell'=true)
 (h:∀W,Blk W g t (cs.setIfInBounds i u)->w.grownBy W (some g)->W.heap.size=w.heap.size->K (a.put o.dst undef) W):o.wp P a w K Q:=by
 unfold Oper.wp execOp;simp only[ho,hx,hy,Instr.storeAt,Instr.sureAddr,Sem.run_bind,Sem.run_pure,Result.andThen_ok,z3a hB hlt hi h1];refine h _ (hB.set_ i u) ⟨rfl,rfl,rfl,by simp[World.setCell],fun k _ hne=>Below.heap_setCell _ _ _ _ (fun e=>hne (by rw[e]))⟩ (by simp[World.setCell])
theorem zfg{w:World}(hgd:o.guard=none)(ty:TypeId)(x y:Operand)(ho:o.op= .store ty x y)
 (g i:Nat)(u:Value)(hx:a.eval x= .pointer (some ⟨g,i,none⟩))(hy:a.eval y=u){t:TypeId}{cs:Array Value}(hB:Blk w g t cs)(hlt:i<cs.size)(hi:(P.info? ty).map (·.size)=some 1)(h1:u.oneCell'=true)
 (h:∀W,Blk W g t (cs.setIfInBounds i u)->w.grownBy W (some g)->W.heap.size=w.heap.size->wpList P ops Q rest (a.put o.dst undef) W):wpList P ops Q (o::rest) a w:=
 wpList_plain hgd fun _ hK=>ziz ty x y ho g i u hx hy hB hlt hi h1 (fun W b g s=>hK _ _ (h W b g s))
end
open Go Go.RowKit
section
variable{P:Program}{o:Oper}{a:Act}{Q:Exit->Act->World->Prop}{K:Act->World->Prop}
theorem z0l{w:World}{t e:TypeId}{z:Value}{sz bytes:Nat}(E:ElT P t e z sz bytes)(s x:Operand)
 (ho:o.op= .call {callee:= .builtin .append,args:= #[s,x],argTypes:= #[t,t]})
 {W:World}{B base n m c:Nat}{v:Value}{xs news:List Value}{A:Option Addr}(hown:w.ownsRow base e sz v n xs)(hr:Reads w w.heap.size sz A m news)(hs:a.eval s=v)(hx:a.eval x= .slice A m c)
 (hb:Below B W w)(hbB:B<=base)(hbase:base<=w.heap.size)(h1:∀u∈news,u.oneCell'=true)
 (hn:(n+m)*bytes<=140737488355328)(hm:n+m<=maxLen)
 (h:∀A' c' w',n+m<=c'->c'<=maxLen->w'.ownsRow base e sz (.slice A' (n+m) c') (n+m) (xs++news)->w.grownBy w' v.ownBlock->Below B W w'->(Value.ownBlock (.slice A' (n+m) c')=v.ownBlock\/ ∃g,Value.ownBlock (.slice A' (n+m) c')=some g/\w.heap.size<=g)->K (a.put o.dst (.slice A' (n+m) c')) w'):
 Oper.wp P o a w K Q:=by
 obtain⟨i,hi,hz0,hz1,hz2⟩:=info_parts E.hi;rcases A with _|ad
 ·have hm0:m=0:=by
   rcases Nat.eq_zero_or_pos m with h0|h0
   ·exact h0
   ·obtain⟨ad,h',_⟩:=hr.2 h0
    cases h'
  subst hm0;have hn0:news=[]:=List.eq_nil_of_length_eq_zero (by have:=hr.1;omega);subst hn0;have hrun:∀ty,(Builtin.append_ #[t,t] ty #[v,.slice none 0 c]).run P w= .ok v w:=by
   intro ty;rcases hown.2 with⟨rfl,hx0⟩|⟨g,cap,cur,rfl,_,_,hnc,_⟩
   ·simp[Builtin.append_,run_underlying E.ht,sizeOf,typeInfo,hi,Builtin.lenOf,Builtin.firstCells]
   ·simp[Builtin.append_,run_underlying E.ht,sizeOf,typeInfo,hi,Builtin.lenOf,Builtin.firstCells,hnc,storeCells]
  obtain⟨A',c',rfl,hc1,hc2⟩:=zcg hown;unfold Oper.wp execOp;simp only[ho,resolve,invoke,builtin,Sem.run_bind,Sem.run_pure,Result.andThen_ok,List.map_toArray,List.map_cons,List.map_nil,hs,hx,hrun];exact h A' c' w hc1 hc2 (by simpa using hown) (World.grownBy.refl w _) hb (.inl rfl)
 ·have hl:news.length=m*sz:=hr.1
  have hcells:∀j u,news[j]? =some u->w.cell? (ad.add j)=some u:=by
   intro j u hu;rcases Nat.eq_zero_or_pos m with h0|h0
   ·subst h0
    have hn:news=[]:=List.eq_nil_of_length_eq_zero (by omega);subst hn;simp at hu
   ·obtain⟨ad',h',_,hc⟩:=hr.2 h0
    injection h' with h';subst h';exact hc j u hu
  obtain⟨v',w',hr',hown',hg,_,hat⟩:=run_append_own_at (P:=P) w base t o.type e i z sz bytes E.ht hi hz0 hz1 hz2 E.hz E.hs v n xs hown ad m c news hl hcells h1 hm hn hbase;obtain⟨A',c',rfl,hc1,hc2⟩:=zcg hown';unfold Oper.wp execOp;simp only[ho,resolve,invoke,builtin,Sem.run_bind,Sem.run_pure,Result.andThen_ok,List.map_toArray,List.map_cons,List.map_nil,hs,hx,hr'];exact h A' c' w' hc1 hc2 hown' hg (hb.grown hg (Nat.le_trans hbB hbase) (fun k hk=>by have:=(World.ownsRow.lt hown k hk).1;omega)) (hat.imp id (fun e=>⟨_,e,Nat.le_refl _⟩))
end
end Go.Hm
