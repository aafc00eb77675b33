import Derived.Test.YtbahbnbpmfgimaaGreatDoorBun4
import Derived.Test.YtbahbnbpmfgimaaGreatDoorBun5
set_option maxHeartbeats 2000000
set_option maxRecDepth 100000
namespace Go.Proofs.Y
open Go.RowKit Go.Hm
theorem zfk{w:World}(x:Int)(n:Nat)(hx:U32 x)(hn:1<=n/\n<=31):
 Calls Tryz.prog 80 #[.int .u32 x,.int .i64 (n:Int)] w (DrewPost (.int .u32 (rot x n)) w):=by
 obtain⟨h1,h2⟩:=hn;have HO:=qrf (qig hx h2);clear hx;go_enter Tryz.func80,Tryz.ntmps80
 go_wp2
 go_quiet (fail)
 go_wp2
 go_ret
 exact⟨by rw[<-HO.out];rfl,_,rfl⟩
theorem zej{w:World}(x:Int)(n:Nat)(hn:1<=n/\n<=31):
 Calls Tryz.prog 140 #[.int .u32 x,.int .u64 (n:Int)] w (zcv (.int .u32 (rot x n)) w):=by
 obtain⟨h1,h2⟩:=hn;go_enter Tryz.func140,Tryz.ntmps140
 go_wp2
 go_ret
 exact⟨rfl,rfl⟩
def zcb(l:List Nat)(w:World)(e:Ending)(w':World):Prop:=
 ∃A n c,e= .returned (.slice A n c)/\Own w' w.heap.size 5 (.slice A n c) (zah .u8 l)/\Below w.heap.size w w'
theorem qgf{w:World}{A:Option Addr}{n c:Nat}{l:List Nat}(x:Nat)(h:Reads w w.heap.size 1 A n (zah .u8 l))(hl:n<=140737488355200):
 Calls Tryz.prog 91 #[.slice A n c,.int .u32 (x:Int),.int .i64 4] w (zcb (l++low x 4) w):=by
 obtain rfl:=h.len;go_enter Tryz.func91,Tryz.ntmps91
 go_wp2_with (first
  |(refine zci elB rfl (.tmp 10) (.tmp 14) rfl (W:=w) (B:=w.heap.size) l.length (l.length+4) rfl rfl rfl (by simp) (by omega) (qq8 _ _) (ql6 _) rfl (by omega) (by simp only[maxLen];omega) ?_
    intro w1 hown1 hg1 hb1 hs1)
  |(refine zok elB rfl (.tmp 16) (.tmp 17) rfl (W:=w) (B:=w.heap.size) hown1 (h.grown_far hg1 (by simp)) rfl rfl l.length (Nat.min_self _) hb1 (ql6 _) (zct _ _) ?_
    intro w2 hown2 hg2 hb2 hs2))
 rw[qm0 (by rw[zaa];omega),qpr (by simp),qmg] at hown2;have hs0:=hb2.size;clear hown1 hg1 hb1 hs1 hg2 hs2;go_loopw [7,20] (fun v i wr=>∃(k:Nat) (A:Option Addr) (c:Nat),k<=4/\i= .int .i64 (k:Int)/\v= .slice A (l.length+k) c/\Own wr w.heap.size 5 (.slice A (l.length+k) c) (zah .u8 (l++low x k))/\Below w.heap.size w wr) (fun _ i _=>4-(intOf i).toNat)
 case atStart=>exact⟨0,_,_,by omega,rfl,rfl,by simpa[low] using hown2,hb2⟩
 case round=>
  obtain⟨k,A',c',hk,rfl,rfl,hown,hb⟩:=hrel;have hz:=hb.size;by_cases hlt:k<4
  ·have S:=qrf (zxi x k)
   have hlen:(l++low x k).length=l.length+k:=by rw[qmv,zbe]
   have HL:=qrf hlen;clear hlen;go_wp2_with (first
    |(refine zbr elB rfl (.tmp 23) (.tmp 29) rfl (W:=w) (B:=w.heap.size) hown rfl rfl (x/256^k%256) (by rw[S.out]) hb (ql6 _) (by omega) (by omega) (by simp only[maxLen];omega) ?_
      intro A3 c3 w3 _ _ hown3 hg3 hb3 _ _))
   go_roundw
   case rel=>exact⟨k+1,A3,c3,by omega,by go_num,rfl,by rw[qmi] at hown3;exact hown3,hb3⟩
   case measure=>simp[intOf];omega
  ·obtain rfl:k=4:=by omega
   go_wp2
   go_ret
   exact⟨A',_,c',rfl,hown,hb⟩
theorem qgg{w:World}{A:Option Addr}{n c:Nat}{l:List Nat}(x:Nat)(h:Reads w w.heap.size 1 A n (zah .u8 l))(hl:n<=140737488355200):
 Calls Tryz.prog 53 #[.slice A n c,.int .u32 (x:Int)] w (zcb (l++low x 4) w):=by
 obtain rfl:=h.len;go_enter Tryz.func53,Tryz.ntmps53
 go_wp2_with (go_at_call 91;refine(qgf x h hl).mono ?_;rintro e w1 ⟨A',n',c',rfl,k1,k2⟩)
 go_ret
 exact⟨A',n',c',rfl,k1,k2⟩
theorem qgh{w:World}{A:Option Addr}{n c:Nat}{l:List Nat}(x:Nat)(h:Reads w w.heap.size 1 A n (zah .u8 l))(hl:n<=140737488355200):
 Calls Tryz.prog 102 #[.slice A n c,.int .u64 (x:Int),.int .i64 8] w (zcb (l++low x 8) w):=by
 obtain rfl:=h.len;go_enter Tryz.func102,Tryz.ntmps102
 go_wp2_with (first
  |(refine zci elB rfl (.tmp 10) (.tmp 14) rfl (W:=w) (B:=w.heap.size) l.length (l.length+8) rfl rfl rfl (by simp) (by omega) (qq8 _ _) (ql6 _) rfl (by omega) (by simp only[maxLen];omega) ?_
    intro w1 hown1 hg1 hb1 hs1)
  |(refine zok elB rfl (.tmp 16) (.tmp 17) rfl (W:=w) (B:=w.heap.size) hown1 (h.grown_far hg1 (by simp)) rfl rfl l.length (Nat.min_self _) hb1 (ql6 _) (zct _ _) ?_
    intro w2 hown2 hg2 hb2 hs2))
 rw[qm0 (by rw[zaa];omega),qpr (by simp),qmg] at hown2;have hs0:=hb2.size;clear hown1 hg1 hb1 hs1 hg2 hs2;go_loopw [7,20] (fun v i wr=>∃(k:Nat) (A:Option Addr) (c:Nat),k<=8/\i= .int .i64 (k:Int)/\v= .slice A (l.length+k) c/\Own wr w.heap.size 5 (.slice A (l.length+k) c) (zah .u8 (l++low x k))/\Below w.heap.size w wr) (fun _ i _=>8-(intOf i).toNat)
 case atStart=>exact⟨0,_,_,by omega,rfl,rfl,by simpa[low] using hown2,hb2⟩
 case round=>
  obtain⟨k,A',c',hk,rfl,rfl,hown,hb⟩:=hrel;have hz:=hb.size;by_cases hlt:k<8
  ·have S:=qrf (zxi x k)
   have hlen:(l++low x k).length=l.length+k:=by rw[qmv,zbe]
   have HL:=qrf hlen;clear hlen;go_wp2_with (first
    |(refine zbr elB rfl (.tmp 23) (.tmp 29) rfl (W:=w) (B:=w.heap.size) hown rfl rfl (x/256^k%256) (by rw[S.out]) hb (ql6 _) (by omega) (by omega) (by simp only[maxLen];omega) ?_
      intro A3 c3 w3 _ _ hown3 hg3 hb3 _ _))
   go_roundw
   case rel=>exact⟨k+1,A3,c3,by omega,by go_num,rfl,by rw[qmi] at hown3;exact hown3,hb3⟩
   case measure=>simp[intOf];omega
  ·obtain rfl:k=8:=by omega
   go_wp2
   go_ret
   exact⟨A',_,c',rfl,hown,hb⟩
theorem z6e{w:World}{A:Option Addr}{n c:Nat}{l:List Nat}(x:Nat)(h:Reads w w.heap.size 1 A n (zah .u8 l))(hl:n<=140737488355200):
 Calls Tryz.prog 70 #[.slice A n c,.int .u64 (x:Int)] w (zcb (l++low x 8) w):=by
 obtain rfl:=h.len;go_enter Tryz.func70,Tryz.ntmps70
 go_wp2_with (go_at_call 102;refine(qgh x h hl).mono ?_;rintro e w1 ⟨A',n',c',rfl,k1,k2⟩)
 go_ret
 exact⟨A',n',c',rfl,k1,k2⟩
theorem zxs{w:World}{g:Nat}{l:List Nat}(n:Nat)(h:Cur w g l false)(hn:n<=l.length)(hs:n<=1):
 Calls Tryz.prog 150 #[.pointer (some ⟨g,0,none⟩),.int .i64 (n:Int)] w (zdk (.returned (.int .u8 (num (l.take n):Int))) g (l.drop n) false w):=by
 have hlt:(l.take n).length=n:=by rw[ql2];omega
 have N:=qrf (zk1 h hn);have h8:∀x∈l.take n,x<256:=by obtain⟨A,c,_,_,_,_,h5,_⟩:=h;exact fun x hx=>h5 x (qmu hx)
 unfold zk0 at N;generalize l.take n=T at*;generalize hD:l.drop n=D at*;clear hD h hn;go_enter Tryz.func150,Tryz.ntmps150
 go_wp2_with (first
  |(go_at_call 135;refine N.out.mono ?_;rintro e w1 ⟨A',c',rfl,k1,k2,k3⟩
    have k4:=k1.1))
 clear N;subst hlt;go_loop [5,12] (fun v i=>∃k:Nat,k<=T.length/\i= .int .i64 (k:Int)/\v= .int .u8 (num (T.take k):Int)) (fun _ i=>T.length-(intOf i).toNat)
 case atStart=>exact⟨0,by omega,rfl,by simp[num]⟩
 case round=>
  obtain⟨k,hk,rfl,rfl⟩:=hrel;by_cases hlt':k<T.length
  ·obtain⟨ad,rfl,hb,hcell⟩:=k4.num hlt'
   have S:=qrf (zxh T k hlt' hs h8);generalize T.getD k 0=x at*;go_wp2
   go_round
   case rel=>exact⟨k+1,by omega,by go_num,by rw[S.out]⟩
   case measure=>simp[intOf];omega
  ·obtain rfl:k=T.length:=by omega
   go_wp2
   go_ret
   exact⟨rfl,k2,k3⟩
theorem z2p{w:World}{g:Nat}{l:List Nat}{bad:Bool}{n:Int}(h:Cur w g l bad)(hn:bad=true\/n<0\/(l.length:Int)<n)(h1: -9223372036854775808<=n)(h2:n<=9223372036854775807):
 Calls Tryz.prog 150 #[.pointer (some ⟨g,0,none⟩),.int .i64 n] w (zdk (.returned (.int .u8 0)) g [] true w):=by
 have HN:=qrf (zs6 h hn h1 h2);clear hn h1 h2 h;go_enter Tryz.func150,Tryz.ntmps150
 go_wp2_with (first
  |(go_at_call 135;refine HN.out.mono ?_;rintro e w1 ⟨rfl,k1,k2⟩))
 refine wp_loop_rounds 1 ?_;rw[rounds_succ];go_wp2
 go_ret
 exact⟨rfl,k1,k2⟩
theorem z6s{w:World}{g:Nat}{l:List Nat}(h:Cur w g l false)(hn:1<=l.length):
 Calls Tryz.prog 137 #[.pointer (some ⟨g,0,none⟩)] w (zdk (.returned (.int .u8 (num (l.take 1):Int))) g (l.drop 1) false w):=by
 have N:=qrf (zxs 1 h hn (by omega));go_enter Tryz.func137,Tryz.ntmps137
 go_wp2_with (go_at_call 150;refine N.out.mono ?_;rintro e w1 ⟨rfl,k1,k2⟩)
 go_ret
 exact⟨rfl,k1,k2⟩
theorem zn0{w:World}{g:Nat}{l:List Nat}{bad:Bool}(h:Cur w g l bad)(hn:bad=true\/l.length<1):
 Calls Tryz.prog 137 #[.pointer (some ⟨g,0,none⟩)] w (zdk (.returned (.int .u8 0)) g [] true w):=by
 have N:=qrf (z2p (n:=1) h (by rcases hn with hn|hn;exact .inl hn;exact .inr (.inr (by omega))) (by omega) (by omega));clear hn;go_enter Tryz.func137,Tryz.ntmps137
 go_wp2_with (go_at_call 150;refine N.out.mono ?_;rintro e w1 ⟨rfl,k1,k2⟩)
 go_ret
 exact⟨rfl,k1,k2⟩
theorem zu4{w:World}{g:Nat}{l:List Nat}(n:Nat)(h:Cur w g l false)(hn:n<=l.length)(hs:n<=4):
 Calls Tryz.prog 114 #[.pointer (some ⟨g,0,none⟩),.int .i64 (n:Int)] w (zdk (.returned (.int .u32 (num (l.take n):Int))) g (l.drop n) false w):=by
 have hlt:(l.take n).length=n:=by rw[ql2];omega
 have N:=qrf (zk1 h hn);have h8:∀x∈l.take n,x<256:=by obtain⟨A,c,_,_,_,_,h5,_⟩:=h;exact fun x hx=>h5 x (qmu hx)
 unfold zk0 at N;generalize l.take n=T at*;generalize hD:l.drop n=D at*;clear hD h hn;go_enter Tryz.func114,Tryz.ntmps114
 go_wp2_with (first
  |(go_at_call 135;refine N.out.mono ?_;rintro e w1 ⟨A',c',rfl,k1,k2,k3⟩
    have k4:=k1.1))
 clear N;subst hlt;go_loop [5,12] (fun v i=>∃k:Nat,k<=T.length/\i= .int .i64 (k:Int)/\v= .int .u32 (num (T.take k):Int)) (fun _ i=>T.length-(intOf i).toNat)
 case atStart=>exact⟨0,by omega,rfl,by simp[num]⟩
 case round=>
  obtain⟨k,hk,rfl,rfl⟩:=hrel;by_cases hlt':k<T.length
  ·obtain⟨ad,rfl,hb,hcell⟩:=k4.num hlt'
   have S:=qrf (zuh T k hlt' hs h8);generalize T.getD k 0=x at*;go_wp2
   go_round
   case rel=>exact⟨k+1,by omega,by go_num,by rw[S.out]⟩
   case measure=>simp[intOf];omega
  ·obtain rfl:k=T.length:=by omega
   go_wp2
   go_ret
   exact⟨rfl,k2,k3⟩
theorem qb3{w:World}{g:Nat}{l:List Nat}(h:Cur w g l false)(hn:4<=l.length):
 Calls Tryz.prog 95 #[.pointer (some ⟨g,0,none⟩)] w (zdk (.returned (.int .u32 (num (l.take 4):Int))) g (l.drop 4) false w):=by
 have N:=qrf (zu4 4 h hn (by omega));go_enter Tryz.func95,Tryz.ntmps95
 go_wp2_with (go_at_call 114;refine N.out.mono ?_;rintro e w1 ⟨rfl,k1,k2⟩)
 go_ret
 exact⟨rfl,k1,k2⟩
theorem zu5{w:World}{g:Nat}{l:List Nat}(n:Nat)(h:Cur w g l false)(hn:n<=l.length)(hs:n<=8):
 Calls Tryz.prog 205 #[.pointer (some ⟨g,0,none⟩),.int .i64 (n:Int)] w (zdk (.returned (.int .u64 (num (l.take n):Int))) g (l.drop n) false w):=by
 have hlt:(l.take n).length=n:=by rw[ql2];omega
 have N:=qrf (zk1 h hn);have h8:∀x∈l.take n,x<256:=by obtain⟨A,c,_,_,_,_,h5,_⟩:=h;exact fun x hx=>h5 x (qmu hx)
 unfold zk0 at N;generalize l.take n=T at*;generalize hD:l.drop n=D at*;clear hD h hn;go_enter Tryz.func205,Tryz.ntmps205
 go_wp2_with (first
  |(go_at_call 135;refine N.out.mono ?_;rintro e w1 ⟨A',c',rfl,k1,k2,k3⟩
    have k4:=k1.1))
 clear N;subst hlt;go_loop [5,12] (fun v i=>∃k:Nat,k<=T.length/\i= .int .i64 (k:Int)/\v= .int .u64 (num (T.take k):Int)) (fun _ i=>T.length-(intOf i).toNat)
 case atStart=>exact⟨0,by omega,rfl,by simp[num]⟩
 case round=>
  obtain⟨k,hk,rfl,rfl⟩:=hrel;by_cases hlt':k<T.length
  ·obtain⟨ad,rfl,hb,hcell⟩:=k4.num hlt'
   have S:=qrf (zui T k hlt' hs h8);generalize T.getD k 0=x at*;go_wp2
   go_round
   case rel=>exact⟨k+1,by omega,by go_num,by rw[S.out]⟩
   case measure=>simp[intOf];omega
  ·obtain rfl:k=T.length:=by omega
   go_wp2
   go_ret
   exact⟨rfl,k2,k3⟩
theorem zxt{w:World}{g:Nat}{l:List Nat}{bad:Bool}{n:Int}(h:Cur w g l bad)(hn:bad=true\/n<0\/(l.length:Int)<n)(h1: -9223372036854775808<=n)(h2:n<=9223372036854775807):
 Calls Tryz.prog 205 #[.pointer (some ⟨g,0,none⟩),.int .i64 n] w (zdk (.returned (.int .u64 0)) g [] true w):=by
 have HN:=qrf (zs6 h hn h1 h2);clear hn h1 h2 h;go_enter Tryz.func205,Tryz.ntmps205
 go_wp2_with (first
  |(go_at_call 135;refine HN.out.mono ?_;rintro e w1 ⟨rfl,k1,k2⟩))
 refine wp_loop_rounds 1 ?_;rw[rounds_succ];go_wp2
 go_ret
 exact⟨rfl,k1,k2⟩
theorem qb4{w:World}{g:Nat}{l:List Nat}(h:Cur w g l false)(hn:8<=l.length):
 Calls Tryz.prog 189 #[.pointer (some ⟨g,0,none⟩)] w (zdk (.returned (.int .u64 (num (l.take 8):Int))) g (l.drop 8) false w):=by
 have N:=qrf (zu5 8 h hn (by omega));go_enter Tryz.func189,Tryz.ntmps189
 go_wp2_with (go_at_call 205;refine N.out.mono ?_;rintro e w1 ⟨rfl,k1,k2⟩)
 go_ret
 exact⟨rfl,k1,k2⟩
theorem z6t{w:World}{g:Nat}{l:List Nat}{bad:Bool}(h:Cur w g l bad)(hn:bad=true\/l.length<8):
 Calls Tryz.prog 189 #[.pointer (some ⟨g,0,none⟩)] w (zdk (.returned (.int .u64 0)) g [] true w):=by
 have N:=qrf (zxt (n:=8) h (by rcases hn with hn|hn;exact .inl hn;exact .inr (.inr (by omega))) (by omega) (by omega));clear hn;go_enter Tryz.func189,Tryz.ntmps189
 go_wp2_with (go_at_call 205;refine N.out.mono ?_;rintro e w1 ⟨rfl,k1,k2⟩)
 go_ret
 exact⟨rfl,k1,k2⟩
theorem z0b{w:World}{g x:Nat}{b:List Nat}(h:Cur w g (x::b) false):
 Calls Tryz.prog 137 #[.pointer (some ⟨g,0,none⟩)] w (zdk (.returned (.int .u8 (x:Int))) g b false w):=by
 have:=z6s h (by simp);simpa[num] using this
end Go.Proofs.Y
namespace Go.Hm
theorem z2t(n:Nat)(h0:n≠0)(h:n<18446744073709551616):Lib.bitLen (n ||| 1)=Lib.bitLen n:=by
 have e:(n ||| 1)/2=n/2:=by rw[Nat.or_div_two];simp
 have hlt:n ||| 1<2^64:=qp2 h (by omega);have hne:n ||| 1≠0:=by intro e0;rw[e0] at e;have:=Nat.right_le_or (n:=n) (m:=1);omega
 rw[Lib.bitLen_half _ hne hlt,Lib.bitLen_half n h0 h,e]
theorem qgt:∀(k n:Nat),n<2^k->n≠0->n<18446744073709551616->(Lib.bitLen n+6)/7=(vp n).length:=by
 intro k;induction k using Nat.strongRecOn with
 |ind k ih=>
  intro n hk h0 h;by_cases hn:n<128
  ·have h1:=Lib.bitLen_le n 7 (by omega) hn
   have h2:=Lib.bitLen_half n h0 h;rw[zgd hn];simp only[qp7];omega
  ·have e:Lib.bitLen n=7+Lib.bitLen (n/128):=Lib.bitLen_shift 7 n (by omega) h
   have hk7:7<k:=by
    refine Nat.lt_of_not_le fun hle=>?_
    have:=qnj (n:=2) (by omega) hle;omega
   have hd:n/128<2^(k-7):=by refine qm7 ?_;rw[show(128:Nat)=2^7 from rfl,<-qnz,show 7+(k-7)=k by omega];exact hk
   have:=ih (k-7) (by omega) (n/128) hd (by omega) (by omega);rw[zge hn,qm9,<-this,e];omega
theorem qgu(n:Nat)(h:n<18446744073709551616):(Lib.bitLen (n ||| 1)+6)/7=(vp n).length:=by
 by_cases h0:n=0
 ·subst h0;rw[zgd (by omega)];decide
 ·rw[z2t n h0 h,qgt 64 n h h0 h]
theorem qcb(a:Nat)(h:a<18446744073709551616):bits .xor .u64 (a:Int) 0=a:=by have:=u64_xor_nat a 0 h (by omega);simpa using this
theorem qcc(a:Nat)(h:a<18446744073709551616):bits .xor .u64 (a:Int) 18446744073709551615=((18446744073709551615-a:Nat):Int):=by show IntKind.u64.wrap ((BitVec.ofInt 64 (a:Int) ^^^ BitVec.ofInt 64 18446744073709551615).toNat:Int)=_;rw[show BitVec.ofInt 64 18446744073709551615=BitVec.allOnes 64 from by decide,BitVec.xor_allOnes,BitVec.toNat_not,ofInt_u64 a h,qrj];omega
theorem qcd(a:Nat)(h:a<9223372036854775808):bits .xor .i64 (a:Int) 0=a:=by show IntKind.i64.wrap ((BitVec.ofInt 64 (a:Int) ^^^ BitVec.ofInt 64 0).toNat:Int)=_;rw[show BitVec.ofInt 64 0=0#64 from by decide,BitVec.xor_zero,ofInt_u64 a (by omega),qrl];omega
theorem qce(a:Nat)(h:a<9223372036854775808):bits .xor .i64 (a:Int) (-1)= -(a:Int)-1:=by show IntKind.i64.wrap ((BitVec.ofInt 64 (a:Int) ^^^ BitVec.ofInt 64 (-1)).toNat:Int)=_;rw[show BitVec.ofInt 64 (-1)=BitVec.allOnes 64 from by decide,BitVec.xor_allOnes,BitVec.toNat_not,ofInt_u64 a (by omega),qrl];omega
def zig(x:Int):Nat:=if x<0 then(-(2*x)-1).toNat else(2*x).toNat
def zag(n:Nat):Int:=if n%2=0 then((n/2:Nat):Int) else-((n/2:Nat):Int)-1
theorem z6z(x:Int):zag (zig x)=x:=by unfold zig zag;split<;> split<;> omega
theorem z60(n:Nat):zig (zag n)=n:=by unfold zig zag;split<;> split<;> omega
end Go.Hm
namespace Go.Proofs.Y
open Go.RowKit Go.Hm
def qiq(n:Nat)(w:World)(e:Ending)(w':World):Prop:=e= .returned (.int .i64 ((vp n).length:Int))/\w=w'
theorem z0e(n:Nat)(w:World)(h:n<18446744073709551616):Calls Tryz.prog 132 #[.int .u64 n] w (qiq n w):=by
 have e:bits .or .u64 (n:Int) 1=((n ||| 1:Nat):Int):=by have:=u64_or_nat n 1 h (by omega);simpa using this
 have hlt:n ||| 1<2^64:=qp2 h (by omega);have hv:=qgu n h;have h10:=zas h;have hb:=Lib.bitLen_le (n ||| 1) 64 (by omega) hlt;go_enter Tryz.func132,Tryz.ntmps132
 go_wp2_with (first
  |(go_at_call 120;refine(bits_Len64 ((n ||| 1:Nat):Int) _ (by omega) (by omega)).mono ?_;rintro e w' ⟨rfl,rfl⟩))
 go_ret
 exact⟨by rw[<-hv];go_num,rfl⟩
def qir(w:World)(l:List Nat)(N:Nat)(nv v:Value)(wr:World):Prop:=∃N' D A c,nv= .int .u64 ((N':Nat):Int)/\N'<=N/\D.length+(vp N').length<=l.length+10/\v= .slice A D.length c/\D++vp N'=l++vp N/\Own wr w.heap.size 5 (.slice A D.length c) (zah .u8 D)/\Below w.heap.size w wr
theorem zc9(A:Option Addr)(n c:Nat)(l:List Nat)(N:Nat)(w:World)(hr:Reads w w.heap.size 1 A n (zah .u8 l))(hn:n<=140737488355200)(hN:N<=18446744073709551615):
 Calls Tryz.prog 111 #[.slice A n c,.int .u64 N] w (zcb (l++vp N) w):=by
 obtain rfl:l.length=n:=by have:=hr.1;rw[zaa] at this;omega
 have hsz:=zas (n:=N) (by omega);go_enter Tryz.func111,Tryz.ntmps111
 go_wp2_with (first
  |(go_at_call 132;refine(z0e N _ (by omega)).mono ?_;rintro e w' ⟨rfl,rfl⟩)
  |(refine zci elB rfl (.tmp 7) (.tmp 12) rfl (W:=w) (B:=w.heap.size) l.length (l.length+(vp N).length) rfl rfl rfl (by simp) (by omega) (qq8 _ _) (ql6 _) rfl (by omega) (by simp only[maxLen];omega) ?_
    intro w1 hown1 hg1 hb1 hs1)
  |(refine zok elB rfl (.tmp 14) (.tmp 15) rfl (W:=w) (B:=w.heap.size) hown1 (hr.grown_far hg1 (by simp)) rfl rfl l.length (Nat.min_self _) hb1 (ql6 _) (zct _ _) ?_
    intro w2 hown2 hg2 hb2 hs2))
 go_frame
 go_loopw [1,5] (qir w l N) (fun nv _ _=>(intOf nv).toNat)
 case atStart=>
  refine⟨N,l,_,_,rfl,ql6 _,by omega,rfl,rfl,?_,hb2⟩;rw[qm0 (by rw[zaa];omega),qpr (by simp),qmg] at hown2;exact hown2
 case round=>
  obtain⟨N',D,A',c',rfl,hN',hD,rfl,hDN,hown,hb⟩:=hrel;have hb0:=hb.size;by_cases hlt:N'<128
  ·go_wp2_with (first
    |(refine zbr elB rfl (.tmp 27) (.tmp 30) rfl (W:=w) (B:=w.heap.size) hown rfl rfl N' rfl hb (ql6 _) (by omega) (by omega) (by simp only[maxLen];omega) ?_
      intro A3 c3 w3 _ _ hown3 hg3 hb3 _ _))
   go_ret
   rw[zgd hlt] at hDN;rw[hDN] at hown3;have hl':D.length+1=(l++vp N).length:=by rw[<-hDN];simp
   rw[hl'] at hown3⊢;exact⟨_,_,_,rfl,hown3,hb3⟩
  ·have hu:=qkc N'
   have Hu:=qrf hu;clear hu;have hv:=zge hlt;have Hv:=qrf hv;clear hv;go_wp2_with (first
    |(refine zbr elB rfl (.tmp 19) (.tmp 23) rfl (W:=w) (B:=w.heap.size) hown rfl rfl (N'%128+128) (by rw[Hu.out]) hb (ql6 _) (by omega) (by omega) (by simp only[maxLen];omega) ?_
      intro A3 c3 w3 _ _ hown3 hg3 hb3 _ _))
   go_roundw
   case rel=>
    have hv':=Hv.out;rw[hv',qm9] at hD;exact⟨N'/128,D++[N'%128+128],A3,c3,by go_num,by omega,by simp;omega,by simp,by rw[<-hDN,hv'];simp,by simpa using hown3,hb3⟩
   case measure=>simp[intOf];omega
def z61(v:Value)(w:World)(e:Ending)(w':World):Prop:=e= .returned v/\w=w'
theorem zo7(x:Int)(w:World)(h: -9223372036854775808<=x)(h1:x<=9223372036854775807):Calls Tryz.prog 167 #[.int .i64 x] w (z61 (.int .u64 (zig x:Int)) w):=by
 have e:bits .xor .u64 (IntKind.u64.wrap (IntKind.u64.wrap x*2)) (IntKind.u64.wrap (x/9223372036854775808))=(zig x:Int):=by
  simp only[qrj];by_cases hx:x<0
  ·rw[show(x/9223372036854775808)%18446744073709551616=18446744073709551615 from by omega,
    show x%18446744073709551616*2%18446744073709551616=((18446744073709551616+2*x).toNat:Int) from by omega,qcc _ (by omega)]
   simp only[zig,if_pos hx];omega
  ·rw[show(x/9223372036854775808)%18446744073709551616=0 from by omega,
    show x%18446744073709551616*2%18446744073709551616=((2*x).toNat:Int) from by omega,qcb _ (by omega)]
   simp only[zig,if_neg hx]
 go_enter Tryz.func167,Tryz.ntmps167
 go_wp2
 go_ret
 exact⟨rfl,rfl⟩
theorem z62(x:Nat)(w:World)(h:x<18446744073709551616):Calls Tryz.prog 177 #[.int .u64 (x:Int)] w (z61 (.int .i64 (zag x)) w):=by
 have e1:bits .and .u64 (x:Int) 1=((x%2:Nat):Int):=by have:=u64_and_nat x 1 h (by omega);rw[nat_mask1] at this;simpa using this
 have e:bits .xor .i64 ((x:Int)/2) (-((x:Int)%2))=zag x:=by
  by_cases hx:x%2=0
  ·rw[show(-((x:Int)%2))=0 from by omega,show((x:Int)/2)=((x/2:Nat):Int) from by omega,qcd _ (by omega)]
   simp only[zag,if_pos hx]
  ·rw[show(-((x:Int)%2))= -1 from by omega,show((x:Int)/2)=((x/2:Nat):Int) from by omega,qce _ (by omega)]
   simp only[zag,if_neg hx]
 go_enter Tryz.func177,Tryz.ntmps177
 go_wp2
 go_ret
 exact⟨rfl,rfl⟩
end Go.Proofs.Y
namespace Go.Hm
open Go Go.RowKit
theorem zh6{W1 W2:World}{base:Nat}{e e':TypeId}{u v:Value}{xs ys:List Value}(h2:Own W2 W1.heap.size e u xs)(h1:Own W1 base e' v ys):u.ownBlock=none\/u.ownBlock≠v.ownBlock:=by
 rcases hu:u.ownBlock with _|k
 ·exact .inl rfl
 ·refine .inr fun e=>?_
  have a:=(h2.lt k hu).1;have b:=(h1.lt k e.symm).2;omega
theorem zlg{W:World}{base:Nat}{e:TypeId}{u v v':Value}{xs:List Value}(h:u.ownBlock=none\/u.ownBlock≠v.ownBlock)(d:v'.ownBlock=v.ownBlock\/ ∃g,v'.ownBlock=some g/\W.heap.size<=g)(k:Own W base e u xs):u.ownBlock=none\/u.ownBlock≠v'.ownBlock:=by
 rcases hu:u.ownBlock with _|g
 ·exact .inl rfl
 ·right
  rcases d with d|⟨g',d,hg⟩
  ·rw[d,<-hu]
   rcases h with h|h
   ·rw[hu] at h;cases h
   ·exact h
  ·rw[d]
   intro e;injection e with e;have:=(k.lt g hu).2;omega
theorem zgj{u v:Value}(h:u.ownBlock=none\/u.ownBlock≠v.ownBlock):v.ownBlock=none\/v.ownBlock≠u.ownBlock:=by
 rcases hv:v.ownBlock with _|k
 ·exact .inl rfl
 ·refine .inr fun e=>?_
  rcases h with h|h
  ·rw[h] at e;cases e
  ·exact h (by rw[hv,e])
open Go Go.RowKit
def zgl:Int × Int->List (Int × Int)->Option (List (Int × Int))
 |_,[]=>some []
 |h,p::r=>if inBox p.1 p.2 then(zgl p r).map ((p.1-h.1,p.2-h.2):: ·) else none
theorem inBox_iff{x y:Int}:inBox x y=true↔(-1048576<=x/\x<=1048576)/\(-1048576<=y/\y<=1048576):=by simp[inBox];omega
open Go Go.RowKit
abbrev nm(l:List zbi)(i:Nat):List Nat:=(l.getD i ([],0,false)).1
def zmp(a:List zbi)(s:List Nat):Prop:=s.length=0\/100<s.length\/s∈a.map (·.1)
instance(a:List zbi)(s:List Nat):Decidable (zmp a s):=by unfold zmp;exact inferInstance
def zlm(a:List zbi)(s:List Nat)(t:Int):Int:=if zmp a s then 1 else if 0<=t/\t<=3 then 0 else 3
def zgy(a:List zbi):List zbi->Int
 | []=>0
 |c::l=>if zlm a c.1 c.2.1=0 then zgy (a++[c]) l else zlm a c.1 c.2.1
def zc7(l:List zbi):Int:=if 64<l.length then 4 else zgy [] l
theorem zyo{l:List zbi}(h:64<l.length):zc7 l=4:=by rw[zc7,if_pos h]
theorem z3m{l:List zbi}(h: ¬64<l.length):zc7 l=zgy (l.take 0) (l.drop 0):=by rw[zc7,if_neg h];rfl
theorem zyp(l:List zbi)(k:Nat)(h:k<l.length):zgy (l.take k) (l.drop k)=if zlm (l.take k) (nm l k) (l.getD k ([],0,false)).2.1=0 then zgy (l.take (k+1)) (l.drop (k+1)) else zlm (l.take k) (nm l k) (l.getD k ([],0,false)).2.1:=by rw[zjz l k ([],0,false) h,zgy,zae l k ([],0,false) h]
theorem z3n(l:List zbi):zgy (l.take l.length) (l.drop l.length)=0:=by rw[qqj];rfl
theorem zv1{l:List zbi}{s:List Nat}{k:Nat}(hk:k<l.length):s∈(l.take (k+1)).map (·.1)↔s∈(l.take k).map (·.1)\/nm l k=s:=by rw[zae l k ([],0,false) hk,qpj,qnd];simp[eq_comm,nm]
end Go.Hm
namespace Go.Proofs.Y
open Go.RowKit Go.Hm
theorem qk9(a b:List Nat)(ha:∀x∈a,x<256)(hb:∀x∈b,x<256):((zai a).toList==(zai b).toList)=decide (a=b):=zi6 ha hb
theorem zv2{w:World}{A:Option Addr}{n c:Nat}{L:List zbi}{s:List Nat}{t:Int}{nu:Bool}(h:Reads w w.heap.size 3 A n (recs zl3 L))(hL:∀x∈L,∀z∈x.1,z<256)(hs:∀z∈s,z<256)(hsl:s.length<=140737488351232)(hn:n<=4611686018427387903):
 Calls Tryz.prog 106 #[.slice A n c,.agg #[.string (zai s),.int .i64 t,.bool nu]] w (zak (.int .i64 (zlm L s t)) w):=by
 obtain rfl:=h.lenC;have z1:=zbt s;have K1:=qrf (fun(hh:zmp L s)=>show zlm L s t=1 by rw[zlm,if_pos hh]);have K2:=qrf (fun(hh: ¬zmp L s)=>show zlm L s t=if 0<=t/\t<=3 then 0 else 3 by rw[zlm,if_neg hh]);generalize zlm L s t=O at*;obtain⟨W0,hW0⟩:∃W,W=w.alloc (.cells #[.string (zai s),.int .i64 t,.bool nu] 71):=⟨_,rfl⟩;have b0:New w W0:=by rw[hW0];exact(qq8 _ _).alloc (ql6 _) _
 have B0:Blk W0 w.heap.size 71 #[.string (zai s),.int .i64 t,.bool nu]:=by rw[hW0];exact qrv _ _ _
 obtain⟨x0,x1,x2⟩:=zar B0;rw[hW0] at x0 x1 x2;by_cases h0:s.length=0
 ·have O1:=qrf (K1.out (.inl h0))
  have e1:((s.length:Int)==0)=true:=by simp[h0]
  clear h0 K1 K2 B0 h;go_enter Tryz.func106,Tryz.ntmps106
  go_wp2
  go_ret
  exact⟨by rw[O1.out];rfl,by rw[<-hW0];exact b0⟩
 ·have e1:((s.length:Int)==0)=false:=beq_eq_false_iff_ne.2 (by omega)
  by_cases h1:100<s.length
  ·have O1:=qrf (K1.out (.inr (.inl h1)))
   have e2:decide (100<(s.length:Int))=true:=by simp;omega
   clear h0 K1 K2 B0 h;go_enter Tryz.func106,Tryz.ntmps106
   go_wp2
   go_ret
   exact⟨by rw[O1.out];rfl,by rw[<-hW0];exact b0⟩
  ·have e2:decide (100<(s.length:Int))=false:=by simp;omega
   have K1:=qrf (fun(hh:s∈L.map (·.1))=>K1.out (.inr (.inr hh)));have K2:=qrf (fun(hh:s∉L.map (·.1))=>K2.out (fun h'=>by rcases h' with h'|h'|h';exact h0 h';exact h1 h';exact hh h'));have r0:=qsg h b0;clear h0 h1 h;go_enter Tryz.func106,Tryz.ntmps106
   go_wp2
   rw[<-hW0];clear x0 x1 x2 hW0;go_loopw [19] (fun i wr=>∃k:Nat,i= .int .i64 (k:Int)/\k<=L.length/\New W0 wr/\Hid (s∉(L.take k).map (·.1))) (fun i _=>L.length-(intOf i).toNat)
   case atStart=>exact⟨0,rfl,by omega,qrz _,qrf (by simp)⟩
   case round=>
    obtain⟨k,rfl,hk,hb,H⟩:=hrel;have B1:=B0.below hb B0.lt;obtain⟨x0,x1,x2⟩:=zar B1;by_cases hlt:k<L.length
    ·obtain⟨ad,rfl,hbk,c0,c1,c2⟩:=(qsg r0 hb).colT hlt
     have M:=qrf (zv1 (s:=s) hlt);have hq:=qk9 (nm L k) s (by rw[nm,qnp,qlx hlt];exact hL _ (qml hlt)) hs;have MM:=qrf (show nm L k=s->s∈L.map (·.1) from fun e=>by have:=(zv1 (s:=s) hlt).2 (.inr e);exact qmu (by rwa[List.map_take] at this))
     unfold nm at*;generalize(L.getD k ([],0,false)).1=s2 at*;generalize(L.getD k ([],0,false)).2.1=t2 at*;generalize(L.getD k ([],0,false)).2.2=n2 at*;have X:=qrf (zar (B1.alloc (.cells #[.string (zai s2),.int .i64 t2,.bool n2] 71)));have Y:=qrf (zar (qrv wr 71 #[.string (zai s2),.int .i64 t2,.bool n2]));have hiz:(k:Int)<(L.length:Int):=by omega
     have b1:New W0 (wr.alloc (.cells #[.string (zai s2),.int .i64 t2,.bool n2] 71)):=Below.alloc hb hb.size _;obtain⟨q0,q1,q2⟩:=X.out;obtain⟨p0,p1,p2⟩:=Y.out;by_cases he:s2=s
     ·rw[decide_eq_true he] at hq
      have O1:=qrf (K1.out (MM.out he));clear he x0 x1 x2;go_wp2
      go_ret
      exact⟨by rw[O1.out];rfl,qr0 b0 b1⟩
     ·rw[decide_eq_false he] at hq
      have H2:=qrf (show s∉(L.take (k+1)).map (·.1) from fun hh=>by
       rcases M.out.1 hh with hh|hh
       ·exact H.out hh
       ·exact he hh)
      clear he x0 x1 x2;go_wp2
      go_roundw
      case rel=>exact⟨k+1,by go_num,by omega,b1,H2⟩
      case measure=>simp[intOf];omega
    ·obtain rfl:k=L.length:=by omega
     have H2:=H.out;rw[qp1] at H2;have O1:=qrf (K2.out H2);clear H H2 K1 K2;go_wp2
     all_goals go_ret
     all_goals
      simp only[beq_iff_eq,beq_eq_false_iff_ne,ne_eq] at*;refine⟨?_,qr0 b0 hb⟩;rw[O1.out];first
       |(rw[if_pos (by omega)];rfl)
       |(rw[if_neg (by omega)];rfl)
theorem zn8{w:World}{A:Option Addr}{n c:Nat}{L:List zbi}(h:Reads w w.heap.size 3 A n (recs zl3 L))(hL:∀x∈L,(∀z∈x.1,z<256)/\x.1.length<=140737488351232)(hc:n<=c)(hn:n<=4611686018427387903):
 Calls Tryz.prog 81 #[.slice A n c] w (zak (.int .i64 (zc7 L)) w):=by
 obtain rfl:=h.lenC;by_cases hm:64<L.length
 ·rw[zyo hm]
  go_enter Tryz.func81,Tryz.ntmps81
  go_wp2
  go_ret
  exact⟨rfl,qrz _⟩
 ·have HO:=qrf (z3m hm)
  generalize zc7 L=O at*;go_enter Tryz.func81,Tryz.ntmps81
  go_wp2
  go_loopw [11] (fun i wr=>∃k:Nat,i= .int .i64 (k:Int)/\k<=L.length/\New w wr/\Hid (O=zgy (L.take k) (L.drop k))) (fun i _=>L.length-(intOf i).toNat)
  case atStart=>exact⟨0,rfl,by omega,qrz _,HO⟩
  case round=>
   obtain⟨k,rfl,hk,hb,H⟩:=hrel;by_cases hlt:k<L.length
   ·have r1:=qsg h hb
    obtain⟨ad,rfl,hbk,c0,c1,c2⟩:=r1.colT hlt;have hx:(L.getD k ([],0,false))∈L:=by rw[qnp,qlx hlt];exact qml hlt
    obtain⟨y1,y2⟩:=hL _ hx;have r2:=r1.take (k:=k) (by omega);rw[ziq (f:=zl3) (sz:=3) (fun _=>rfl) L k (by omega)] at r2;have S:=H.out;rw[zyp L k hlt] at S;have P:=fun(W:World) (hW:New wr W)=>zv2 (c:=c) (t:=(L.getD k ([],0,false)).2.1) (nu:=(L.getD k ([],0,false)).2.2) (qsg r2 hW) (fun x hx=>(hL x (qmu hx)).1) y1 y2 (by omega)
    have P:=qrf P;generalize hck:zlm (L.take k) (L.getD k ([],0,false)).1 (L.getD k ([],0,false)).2.1=ck at*;have HS:=qrf S;generalize(L.getD k ([],0,false)).1=s2 at*;generalize(L.getD k ([],0,false)).2.1=t2 at*;generalize(L.getD k ([],0,false)).2.2=n2 at*;clear S hck H hx y1 y2 r1 r2;have hiz:(k:Int)<(L.length:Int):=by omega
    have hiz2:(k:Int)<=(c:Int):=by omega
    obtain⟨W1,hW1⟩:∃W,W=wr.alloc (.cells #[.string (zai s2),.int .i64 t2,.bool n2] 71):=⟨_,rfl⟩;have b1:New wr W1:=by rw[hW1];exact(qq8 _ _).alloc (ql6 _) _
    have Y:Blk W1 wr.heap.size 71 #[.string (zai s2),.int .i64 t2,.bool n2]:=by rw[hW1];exact qrv _ _ _
    go_wp2_with fail
    rw[<-hW1];clear hW1;refine zaw New [(true,0),(true,1),(true,2),(true,3),(false,4),(true,5)]
     qrz qr0 (by kernel_rfl) (by kernel_rfl) (by kernel_rfl) (by kernel_rfl) ?_
    have hU:=qr0 b1 (qr1 W1);have hV:=qrz W1.drew;repeat(first
     |(refine za6 rfl rfl (fun K hK=>?_);go_simp
       (with_reducible refine(P.out _ hU).mono ?_)
       rintro e w9 ⟨rfl,b9⟩;refine hK _ _ b9 ?_;clear hK;replace hU:=qr0 hU b9;replace hV:=qr0 hV b9)
     |(refine zaj rfl rfl (v:=?_) (fun W hW=>?_) ?_;rotate_left;(obtain⟨x0,x1,x2⟩:=zar (Y.below (qr0 (qr1 W1) (qr0 hV hW)) Y.lt);go_simp<;> with_reducible rfl);simp only[Act.put,qoi,qn8,qoj]))
    refine zda ?_;clear Y b1 P;by_cases hz:ck=0
    ·have HS2:=qrf (show O=zgy (L.take (k+1)) (L.drop (k+1)) by rw[HS.out,if_pos hz])
     subst hz;go_wp2
     go_roundw
     case rel=>exact⟨k+1,by go_num,by omega,qr0 hb hU,HS2⟩
     case measure=>simp[intOf];omega
    ·have HS2:=qrf (show O=ck by rw[HS.out,if_neg hz])
     have e1:(ck != 0)=true:=by simpa using hz
     clear hz;go_wp2
     go_ret
     exact⟨by rw[HS2.out];rfl,qr0 hb hU⟩
   ·obtain rfl:k=L.length:=by omega
    have HS2:=qrf (show O=0 by rw[H.out,z3n]);go_wp2
    go_ret
    exact⟨by rw[HS2.out];rfl,hb⟩
end Go.Proofs.Y
