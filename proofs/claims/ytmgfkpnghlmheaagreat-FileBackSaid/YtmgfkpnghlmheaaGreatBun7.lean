/- Texts merged and made short: Shelf, Lays, CurN, PackA, PackB, RefCur, RefNum, OrdP, Slc, PtM. -/
import Derived.BigQuiet
import Derived.Deep.QuietTactic
import Derived.Lib.BitFns
import Derived.Outline
import Derived.Shelf.Strconv.Itoa0
import Derived.StillTailTactics
import Derived.Test.YtmgfkpnghlmheaaGreatBun1
import Derived.Test.YtmgfkpnghlmheaaGreatBun2
import Derived.Test.YtmgfkpnghlmheaaGreatBun3
import Derived.Test.YtmgfkpnghlmheaaGreatBun4
import Derived.Test.YtmgfkpnghlmheaaGreatBun5
import Derived.Test.YtmgfkpnghlmheaaGreatBun6
import Derived.Test.YtmgfkpnghlmheaaGreatProg
set_option maxHeartbeats 2000000
namespace Go.Proofs.YtmgfkpnghlmheaaGreat
open Go.Shelf
def zwf:Go.Shelf.Ren:=⟨fun|129=>151|n=>n,fun|53=>87|3=>3|4=>4|46=>66|5=>5|9=>9|n=>n,fun|n=>n⟩
theorem qee:Go.Proofs.Lays.n129 Tryz.prog zwf:={
 mixed:=by kernel_rfl
 f129:=Tryz.func151.trans (congrArg some (by kernel_rfl))
 t3:=Tryz.underlying3
 a3:=Tryz.isAgg3
 z3:=Tryz.sizeOf3
 v3:=Tryz.zeroValue3
 t4:=Tryz.underlying4
 a4:=Tryz.isAgg4
 z4:=Tryz.sizeOf4
 v4:=Tryz.zeroValue4
 t5:=Tryz.underlying5
 a5:=Tryz.isAgg5
 z5:=Tryz.sizeOf5
 v5:=Tryz.zeroValue5
 t9:=Tryz.underlying9
 a9:=Tryz.isAgg9
 z9:=Tryz.sizeOf9
 v9:=Tryz.zeroValue9
 t46:=Tryz.underlying66
 a46:=Tryz.isAgg66
 z46:=Tryz.sizeOf66
 v46:=Tryz.zeroValue66
 t53:=Tryz.underlying87
 a53:=Tryz.isAgg87
 z53:=Tryz.sizeOf87
 v53:=Tryz.zeroValue87}
theorem bits_Len64(x:Int)(w:World)(h0:0≤x)(h1:x≤18446744073709551615):
 Calls Tryz.prog 151 #[.int .u64 x] w fun e w'=>e= .returned (.int .i64 (Lib.bitLen x.toNat))∧w'=w:=Any.bits_Len64 qee x w h0 h1
open Go.RowKit Go.Hm
set_option maxRecDepth 100000 in
theorem qej{w:World}{A:Option Addr}{n c:Nat}{l:List Nat}(x:Nat)(h:Reads w w.heap.size 1 A n (za3 .u8 l))(hl:n≤140737488355200):
 Calls Tryz.prog 65 #[.slice A n c,.int .u32 (x:Int),.int .i64 4] w (zc4 (l++low x 4) w):=by
 obtain rfl:=h.len
 go_enter Tryz.func65,Tryz.ntmps65
 go_wp2_with (first
  |(refine zca elB rfl (.tmp 10) (.tmp 14) rfl (W:=w) (B:=w.heap.size) l.length (l.length+4) rfl rfl rfl (by simp) (by omega) (Below.refl _ _) (Nat.le_refl _) rfl (by omega) (by simp only[maxLen];omega) ?_
    intro w1 hown1 hg1 hb1 hs1)
  |(refine zno elB rfl (.tmp 16) (.tmp 17) rfl (W:=w) (B:=w.heap.size) hown1 (h.grown_far hg1 (by simp)) rfl rfl l.length (Nat.min_self _) hb1 (Nat.le_refl _) (zcq _ _) ?_
    intro w2 hown2 hg2 hb2 hs2))
 rw[List.take_of_length_le (by rw[zaa];omega),List.drop_of_length_le (by simp),List.append_nil] at hown2;have hs0:=hb2.size;clear hown1 hg1 hb1 hs1 hg2 hs2
 go_loopw [7,20] (fun v i wr=>∃(k:Nat) (A:Option Addr) (c:Nat),k≤4∧i= .int .i64 (k:Int)∧v= .slice A (l.length+k) c∧Own wr w.heap.size 5 (.slice A (l.length+k) c) (za3 .u8 (l++low x k))∧Below w.heap.size w wr) (fun _ i _=>4-(intOf i).toNat)
 case atStart=>exact⟨0,_,_,by omega,rfl,rfl,by simpa[low] using hown2,hb2⟩
 case round=>
  obtain⟨k,A',c',hk,rfl,rfl,hown,hb⟩:=hrel;have hz:=hb.size;by_cases hlt:k<4
  ·have S:=Hz (z3t x k)
   have hlen:(l++low x k).length=l.length+k:=by rw[List.length_append,zbh]
   have HL:=Hz hlen;clear hlen
   go_wp2_with (first
    |(refine zdq elB rfl (.tmp 23) (.tmp 29) rfl (W:=w) (B:=w.heap.size) hown rfl rfl (x/256^k%256) (by rw[S.out]) hb (Nat.le_refl _) (by omega) (by omega) (by simp only[maxLen];omega) ?_
      intro A3 c3 w3 _ _ hown3 hg3 hb3 _ _))
   go_roundw
   case rel=>exact⟨k+1,A3,c3,by omega,by go_num,rfl,by rw[List.append_assoc] at hown3;exact hown3,hb3⟩
   case measure=>simp[intOf];omega
  ·obtain rfl:k=4:=by omega
   go_wp2
   go_ret
   exact⟨A',_,c',rfl,hown,hb⟩
set_option maxRecDepth 100000 in
theorem qek{w:World}{A:Option Addr}{n c:Nat}{l:List Nat}(x:Nat)(h:Reads w w.heap.size 1 A n (za3 .u8 l))(hl:n≤140737488355200):
 Calls Tryz.prog 30 #[.slice A n c,.int .u32 (x:Int)] w (zc4 (l++low x 4) w):=by
 obtain rfl:=h.len
 go_enter Tryz.func30,Tryz.ntmps30
 go_wp2_with (go_at_call 65;refine(qej x h hl).mono ?_;rintro e w1 ⟨A',n',c',rfl,k1,k2⟩)
 go_ret
 exact⟨A',n',c',rfl,k1,k2⟩
set_option maxRecDepth 100000 in
theorem qel{w:World}{A:Option Addr}{n c:Nat}{l:List Nat}(x:Nat)(h:Reads w w.heap.size 1 A n (za3 .u8 l))(hl:n≤140737488355200):
 Calls Tryz.prog 202 #[.slice A n c,.int .u64 (x:Int),.int .i64 8] w (zc4 (l++low x 8) w):=by
 obtain rfl:=h.len
 go_enter Tryz.func202,Tryz.ntmps202
 go_wp2_with (first
  |(refine zca elB rfl (.tmp 10) (.tmp 14) rfl (W:=w) (B:=w.heap.size) l.length (l.length+8) rfl rfl rfl (by simp) (by omega) (Below.refl _ _) (Nat.le_refl _) rfl (by omega) (by simp only[maxLen];omega) ?_
    intro w1 hown1 hg1 hb1 hs1)
  |(refine zno elB rfl (.tmp 16) (.tmp 17) rfl (W:=w) (B:=w.heap.size) hown1 (h.grown_far hg1 (by simp)) rfl rfl l.length (Nat.min_self _) hb1 (Nat.le_refl _) (zcq _ _) ?_
    intro w2 hown2 hg2 hb2 hs2))
 rw[List.take_of_length_le (by rw[zaa];omega),List.drop_of_length_le (by simp),List.append_nil] at hown2;have hs0:=hb2.size;clear hown1 hg1 hb1 hs1 hg2 hs2
 go_loopw [7,20] (fun v i wr=>∃(k:Nat) (A:Option Addr) (c:Nat),k≤8∧i= .int .i64 (k:Int)∧v= .slice A (l.length+k) c∧Own wr w.heap.size 5 (.slice A (l.length+k) c) (za3 .u8 (l++low x k))∧Below w.heap.size w wr) (fun _ i _=>8-(intOf i).toNat)
 case atStart=>exact⟨0,_,_,by omega,rfl,rfl,by simpa[low] using hown2,hb2⟩
 case round=>
  obtain⟨k,A',c',hk,rfl,rfl,hown,hb⟩:=hrel;have hz:=hb.size;by_cases hlt:k<8
  ·have S:=Hz (z3t x k)
   have hlen:(l++low x k).length=l.length+k:=by rw[List.length_append,zbh]
   have HL:=Hz hlen;clear hlen
   go_wp2_with (first
    |(refine zdq elB rfl (.tmp 23) (.tmp 29) rfl (W:=w) (B:=w.heap.size) hown rfl rfl (x/256^k%256) (by rw[S.out]) hb (Nat.le_refl _) (by omega) (by omega) (by simp only[maxLen];omega) ?_
      intro A3 c3 w3 _ _ hown3 hg3 hb3 _ _))
   go_roundw
   case rel=>exact⟨k+1,A3,c3,by omega,by go_num,rfl,by rw[List.append_assoc] at hown3;exact hown3,hb3⟩
   case measure=>simp[intOf];omega
  ·obtain rfl:k=8:=by omega
   go_wp2
   go_ret
   exact⟨A',_,c',rfl,hown,hb⟩
set_option maxRecDepth 100000 in
theorem qem{w:World}{A:Option Addr}{n c:Nat}{l:List Nat}(x:Nat)(h:Reads w w.heap.size 1 A n (za3 .u8 l))(hl:n≤140737488355200):
 Calls Tryz.prog 178 #[.slice A n c,.int .u64 (x:Int)] w (zc4 (l++low x 8) w):=by
 obtain rfl:=h.len
 go_enter Tryz.func178,Tryz.ntmps178
 go_wp2_with (go_at_call 202;refine(qel x h hl).mono ?_;rintro e w1 ⟨A',n',c',rfl,k1,k2⟩)
 go_ret
 exact⟨A',n',c',rfl,k1,k2⟩
open Go.RowKit Go.Hm
theorem zwi{w:World}{g:Nat}{l:List Nat}(n:Nat)(h:Cur w g l false)(hn:n≤l.length)(hs:n≤1):
 Calls Tryz.prog 158 #[.pointer (some ⟨g,0,none⟩),.int .i64 (n:Int)] w (zdc (.returned (.int .u8 (num (l.take n):Int))) g (l.drop n) false w):=by
 have hlt:(l.take n).length=n:=by rw[List.length_take];omega
 have N:=Hz (zj9 h hn)
 have h8:∀x∈l.take n,x<256:=by
  obtain⟨A,c,_,_,_,_,h5,_⟩:=h
  exact fun x hx=>h5 x (List.mem_of_mem_take hx)
 unfold zj8 at N;generalize l.take n=T at*;generalize hD:l.drop n=D at*;clear hD h hn
 go_enter Tryz.func158,Tryz.ntmps158
 go_wp2_with (first
  |(go_at_call 148;refine N.out.mono ?_;rintro e w1 ⟨A',c',rfl,k1,k2,k3⟩
    have k4:=k1.1))
 clear N;subst hlt
 go_loop [5,12] (fun v i=>∃k:Nat,k≤T.length∧i= .int .i64 (k:Int)∧v= .int .u8 (num (T.take k):Int)) (fun _ i=>T.length-(intOf i).toNat)
 case atStart=>exact⟨0,by omega,rfl,by simp[num]⟩
 case round=>
  obtain⟨k,hk,rfl,rfl⟩:=hrel;by_cases hlt':k<T.length
  ·obtain⟨ad,rfl,hb,hcell⟩:=k4.num hlt'
   have S:=Hz (zwh T k hlt' hs h8);generalize T.getD k 0=x at*
   go_wp2
   go_round
   case rel=>exact⟨k+1,by omega,by go_num,by rw[S.out]⟩
   case measure=>simp[intOf];omega
  ·obtain rfl:k=T.length:=by omega
   go_wp2
   go_ret
   exact⟨rfl,k2,k3⟩
theorem z0z{w:World}{g:Nat}{l:List Nat}{bad:Bool}{n:Int}(h:Cur w g l bad)(hn:bad=true∨n<0∨(l.length:Int)<n)(h1: -9223372036854775808≤n)(h2:n≤9223372036854775807):
 Calls Tryz.prog 158 #[.pointer (some ⟨g,0,none⟩),.int .i64 n] w (zdc (.returned (.int .u8 0)) g [] true w):=by
 have HN:=Hz (zry h hn h1 h2);clear hn h1 h2 h
 go_enter Tryz.func158,Tryz.ntmps158
 go_wp2_with (first
  |(go_at_call 148;refine HN.out.mono ?_;rintro e w1 ⟨rfl,k1,k2⟩))
 refine wp_loop_rounds 1 ?_;rw[rounds_succ]
 go_wp2
 go_ret
 exact⟨rfl,k1,k2⟩
theorem z3w{w:World}{g:Nat}{l:List Nat}(h:Cur w g l false)(hn:1≤l.length):
 Calls Tryz.prog 122 #[.pointer (some ⟨g,0,none⟩)] w (zdc (.returned (.int .u8 (num (l.take 1):Int))) g (l.drop 1) false w):=by
 have N:=Hz (zwi 1 h hn (by omega))
 go_enter Tryz.func122,Tryz.ntmps122
 go_wp2_with (go_at_call 158;refine N.out.mono ?_;rintro e w1 ⟨rfl,k1,k2⟩)
 go_ret
 exact⟨rfl,k1,k2⟩
theorem zm2{w:World}{g:Nat}{l:List Nat}{bad:Bool}(h:Cur w g l bad)(hn:bad=true∨l.length<1):
 Calls Tryz.prog 122 #[.pointer (some ⟨g,0,none⟩)] w (zdc (.returned (.int .u8 0)) g [] true w):=by
 have N:=Hz (z0z (n:=1) h (by rcases hn with hn|hn;exact .inl hn;exact .inr (.inr (by omega))) (by omega) (by omega));clear hn
 go_enter Tryz.func122,Tryz.ntmps122
 go_wp2_with (go_at_call 158;refine N.out.mono ?_;rintro e w1 ⟨rfl,k1,k2⟩)
 go_ret
 exact⟨rfl,k1,k2⟩
theorem ztv{w:World}{g:Nat}{l:List Nat}(n:Nat)(h:Cur w g l false)(hn:n≤l.length)(hs:n≤4):
 Calls Tryz.prog 108 #[.pointer (some ⟨g,0,none⟩),.int .i64 (n:Int)] w (zdc (.returned (.int .u32 (num (l.take n):Int))) g (l.drop n) false w):=by
 have hlt:(l.take n).length=n:=by rw[List.length_take];omega
 have N:=Hz (zj9 h hn)
 have h8:∀x∈l.take n,x<256:=by
  obtain⟨A,c,_,_,_,_,h5,_⟩:=h
  exact fun x hx=>h5 x (List.mem_of_mem_take hx)
 unfold zj8 at N;generalize l.take n=T at*;generalize hD:l.drop n=D at*;clear hD h hn
 go_enter Tryz.func108,Tryz.ntmps108
 go_wp2_with (first
  |(go_at_call 148;refine N.out.mono ?_;rintro e w1 ⟨A',c',rfl,k1,k2,k3⟩
    have k4:=k1.1))
 clear N;subst hlt
 go_loop [5,12] (fun v i=>∃k:Nat,k≤T.length∧i= .int .i64 (k:Int)∧v= .int .u32 (num (T.take k):Int)) (fun _ i=>T.length-(intOf i).toNat)
 case atStart=>exact⟨0,by omega,rfl,by simp[num]⟩
 case round=>
  obtain⟨k,hk,rfl,rfl⟩:=hrel;by_cases hlt':k<T.length
  ·obtain⟨ad,rfl,hb,hcell⟩:=k4.num hlt'
   have S:=Hz (zts T k hlt' hs h8);generalize T.getD k 0=x at*
   go_wp2
   go_round
   case rel=>exact⟨k+1,by omega,by go_num,by rw[S.out]⟩
   case measure=>simp[intOf];omega
  ·obtain rfl:k=T.length:=by omega
   go_wp2
   go_ret
   exact⟨rfl,k2,k3⟩
theorem z9s{w:World}{g:Nat}{l:List Nat}(h:Cur w g l false)(hn:4≤l.length):
 Calls Tryz.prog 77 #[.pointer (some ⟨g,0,none⟩)] w (zdc (.returned (.int .u32 (num (l.take 4):Int))) g (l.drop 4) false w):=by
 have N:=Hz (ztv 4 h hn (by omega))
 go_enter Tryz.func77,Tryz.ntmps77
 go_wp2_with (go_at_call 108;refine N.out.mono ?_;rintro e w1 ⟨rfl,k1,k2⟩)
 go_ret
 exact⟨rfl,k1,k2⟩
theorem ztw{w:World}{g:Nat}{l:List Nat}(n:Nat)(h:Cur w g l false)(hn:n≤l.length)(hs:n≤8):
 Calls Tryz.prog 237 #[.pointer (some ⟨g,0,none⟩),.int .i64 (n:Int)] w (zdc (.returned (.int .u64 (num (l.take n):Int))) g (l.drop n) false w):=by
 have hlt:(l.take n).length=n:=by rw[List.length_take];omega
 have N:=Hz (zj9 h hn)
 have h8:∀x∈l.take n,x<256:=by
  obtain⟨A,c,_,_,_,_,h5,_⟩:=h
  exact fun x hx=>h5 x (List.mem_of_mem_take hx)
 unfold zj8 at N;generalize l.take n=T at*;generalize hD:l.drop n=D at*;clear hD h hn
 go_enter Tryz.func237,Tryz.ntmps237
 go_wp2_with (first
  |(go_at_call 148;refine N.out.mono ?_;rintro e w1 ⟨A',c',rfl,k1,k2,k3⟩
    have k4:=k1.1))
 clear N;subst hlt
 go_loop [5,12] (fun v i=>∃k:Nat,k≤T.length∧i= .int .i64 (k:Int)∧v= .int .u64 (num (T.take k):Int)) (fun _ i=>T.length-(intOf i).toNat)
 case atStart=>exact⟨0,by omega,rfl,by simp[num]⟩
 case round=>
  obtain⟨k,hk,rfl,rfl⟩:=hrel;by_cases hlt':k<T.length
  ·obtain⟨ad,rfl,hb,hcell⟩:=k4.num hlt'
   have S:=Hz (ztt T k hlt' hs h8);generalize T.getD k 0=x at*
   go_wp2
   go_round
   case rel=>exact⟨k+1,by omega,by go_num,by rw[S.out]⟩
   case measure=>simp[intOf];omega
  ·obtain rfl:k=T.length:=by omega
   go_wp2
   go_ret
   exact⟨rfl,k2,k3⟩
theorem zwj{w:World}{g:Nat}{l:List Nat}{bad:Bool}{n:Int}(h:Cur w g l bad)(hn:bad=true∨n<0∨(l.length:Int)<n)(h1: -9223372036854775808≤n)(h2:n≤9223372036854775807):
 Calls Tryz.prog 237 #[.pointer (some ⟨g,0,none⟩),.int .i64 n] w (zdc (.returned (.int .u64 0)) g [] true w):=by
 have HN:=Hz (zry h hn h1 h2);clear hn h1 h2 h
 go_enter Tryz.func237,Tryz.ntmps237
 go_wp2_with (first
  |(go_at_call 148;refine HN.out.mono ?_;rintro e w1 ⟨rfl,k1,k2⟩))
 refine wp_loop_rounds 1 ?_;rw[rounds_succ]
 go_wp2
 go_ret
 exact⟨rfl,k1,k2⟩
theorem z9t{w:World}{g:Nat}{l:List Nat}(h:Cur w g l false)(hn:8≤l.length):
 Calls Tryz.prog 221 #[.pointer (some ⟨g,0,none⟩)] w (zdc (.returned (.int .u64 (num (l.take 8):Int))) g (l.drop 8) false w):=by
 have N:=Hz (ztw 8 h hn (by omega))
 go_enter Tryz.func221,Tryz.ntmps221
 go_wp2_with (go_at_call 237;refine N.out.mono ?_;rintro e w1 ⟨rfl,k1,k2⟩)
 go_ret
 exact⟨rfl,k1,k2⟩
theorem z3x{w:World}{g:Nat}{l:List Nat}{bad:Bool}(h:Cur w g l bad)(hn:bad=true∨l.length<8):
 Calls Tryz.prog 221 #[.pointer (some ⟨g,0,none⟩)] w (zdc (.returned (.int .u64 0)) g [] true w):=by
 have N:=Hz (zwj (n:=8) h (by rcases hn with hn|hn;exact .inl hn;exact .inr (.inr (by omega))) (by omega) (by omega));clear hn
 go_enter Tryz.func221,Tryz.ntmps221
 go_wp2_with (go_at_call 237;refine N.out.mono ?_;rintro e w1 ⟨rfl,k1,k2⟩)
 go_ret
 exact⟨rfl,k1,k2⟩
theorem zym{w:World}{g x:Nat}{b:List Nat}(h:Cur w g (x::b) false):
 Calls Tryz.prog 122 #[.pointer (some ⟨g,0,none⟩)] w (zdc (.returned (.int .u8 (x:Int))) g b false w):=by
 have:=z3w h (by simp);simpa[num] using this
end Go.Proofs.YtmgfkpnghlmheaaGreat
namespace Go.Hm
def wid(l:List Nat):Nat:=l.foldl (fun a x=>max a (Lib.bitLen x)) 0
theorem ziy(n:Nat):∀k,k≤64→n<18446744073709551616→(Lib.bitLen n≤k↔n<2^k):=by
 intro k hk hn;refine⟨fun h=>?_,fun h=>Lib.bitLen_le n k hk h⟩
 induction k generalizing n with
 |zero=>
  by_cases h0:n=0
  ·omega
  ·have:=Lib.bitLen_half n h0 hn
   omega
 |succ k ih=>
  by_cases h0:n=0
  ·subst h0;exact Nat.two_pow_pos _
  ·have h1:=Lib.bitLen_half n h0 hn
   have h2:=ih (n/2) (by omega) (by omega) (by omega);rw[Nat.pow_succ];omega
theorem zr0(n:Nat)(hn:n<18446744073709551616):Lib.bitLen n≤64:=Lib.bitLen_le n 64 (by omega) hn
theorem z3y(a b:Nat)(ha:a<18446744073709551616)(hb:b<18446744073709551616):Lib.bitLen (a ||| b)=max (Lib.bitLen a) (Lib.bitLen b):=by
 have hab:a ||| b<18446744073709551616:=Nat.or_lt_two_pow (n:=64) ha hb;have ha64:=zr0 a ha;have hb64:=zr0 b hb;have hab64:=zr0 _ hab
 have key:∀k,k≤64→(Lib.bitLen (a ||| b)≤k↔max (Lib.bitLen a) (Lib.bitLen b)≤k):=by
  intro k hk;rw[ziy _ k hk hab,Nat.max_le,ziy a k hk ha,ziy b k hk hb];exact⟨fun h=>⟨Nat.lt_of_le_of_lt Nat.left_le_or h,Nat.lt_of_le_of_lt Nat.right_le_or h⟩,fun h=>Nat.or_lt_two_pow h.1 h.2⟩
 have h1:=(key _ hab64).1 (Nat.le_refl _);have h2:=(key (max (Lib.bitLen a) (Lib.bitLen b)) (by omega)).2 (Nat.le_refl _);omega
theorem z9u(l:List Nat)(x:Nat):wid (l++[x])=max (wid l) (Lib.bitLen x):=by simp[wid]
def ors(l:List Nat):Nat:=l.foldl (· ||| ·) 0
theorem zyn(l:List Nat)(x:Nat):ors (l++[x])=ors l ||| x:=by simp[ors]
theorem z9v(k:Nat)(l:List Nat)(hk:k≤l.length)(hl:∀x∈l,x≤18446744073709551615):ors (l.take k)<18446744073709551616∧Lib.bitLen (ors (l.take k))=wid (l.take k):=by
 induction k with
 |zero=>simp[ors,wid];decide
 |succ k ih=>
  obtain⟨h1,h2⟩:=ih (by omega)
  have hx:l.getD k 0≤18446744073709551615:=by
   rw[List.getD_eq_getElem?_getD,List.getElem?_eq_getElem (by omega)];exact hl _ (List.getElem_mem (by omega))
  rw[zad l k 0 (by omega),zyn,z9u];exact⟨Nat.or_lt_two_pow (n:=64) h1 (by omega),by rw[z3y _ _ h1 (by omega),h2]⟩
theorem zgo(l:List Nat)(k:Nat)(hk:k≤64)(hl:∀x∈l,x≤18446744073709551615):wid l≤k↔∀x∈l,x<2^k:=by
 have:∀(l:List Nat) a,(∀x∈l,x≤18446744073709551615)→(l.foldl (fun a x=>max a (Lib.bitLen x)) a≤k↔a≤k∧∀x∈l,x<2^k):=by
  intro l
  induction l with
  |nil=>intro a _;simp
  |cons y l ih=>
   intro a h;rw[List.foldl_cons,ih _ (fun x hx=>h x (by simp[hx])),Nat.max_le,ziy y k hk (by have:=h y (by simp);omega)];simp[and_assoc]
 rw[wid,this l 0 hl];simp
theorem zjg(l:List Nat)(hl:∀x∈l,x≤18446744073709551615):wid l≤64:=(zgo l 64 (by omega) hl).2 fun x hx=>by have:=hl x hx;omega
end Go.Hm
namespace Go.Proofs.YtmgfkpnghlmheaaGreat
open Go.RowKit Go.Hm
def zwk(v:Int)(w:World)(e:Ending)(w':World):Prop:=e= .returned (.int .i64 v)∧w=w'
theorem zka{w:World}{A:Option Addr}{n c:Nat}{L:List Nat}(h:Reads w w.heap.size 1 A n (za3 .u64 L))(hL:∀x∈L,x≤18446744073709551615)(hn:n≤9223372036854775807):
 Calls Tryz.prog 196 #[.slice A n c] w (zwk (wid L) w):=by
 obtain rfl:=h.len
 go_enter Tryz.func196,Tryz.ntmps196
 go_wp2
 go_loop [3,8] (fun v i=>∃k:Nat,k≤L.length∧i= .int .i64 (k:Int)∧v= .int .u64 (ors (L.take k):Int)) (fun _ i=>L.length-(intOf i).toNat)
 case atStart=>exact⟨0,by omega,rfl,by simp[ors]⟩
 case round=>
  obtain⟨k,hk,rfl,rfl⟩:=hrel;have HO:=z9v k L hk hL;by_cases hlt:k<L.length
  ·obtain⟨ad,rfl,hb,hcell⟩:=h.num hlt
   have HT:=Hz (zad L k 0 hlt)
   have hl0:L.getD k 0≤18446744073709551615:=by
    rw[List.getD_eq_getElem?_getD,List.getElem?_eq_getElem hlt];exact hL _ (List.getElem_mem hlt)
   generalize L.getD k 0=y at*;obtain⟨h1,_⟩:=HO;generalize hO:ors (L.take k)=o at*;have HO:=Hz hO;clear hO;have hor:=u64_or_nat o y h1 (by omega);have Hor:=Hz hor;clear hor
   go_wp2
   go_round
   case rel=>exact⟨k+1,by omega,by go_num,by rw[HT.out,zyn,HO.out,Hor.out]⟩
   case measure=>simp[intOf];omega
  ·obtain rfl:k=L.length:=by omega
   rw[List.take_length] at*;have LB:=Hz (bits_Len64 (ors L:Int) w (by omega) (by omega));have HO2:=Hz HO.2;clear HO
   go_wp2_with (go_at_call 151;refine LB.out.mono ?_;rintro e w' ⟨rfl,rfl⟩)
   go_ret
   exact⟨by rw[←HO2.out];rfl,rfl⟩
def nby(w n:Int):Int:=if w<0∨64<w∨n<0∨65536<n then-1 else(w*n+7)/8
theorem znq(x n:Nat)(hx:x≤64)(hn:n≤65536):nby (x:Int) (n:Int)=(((x*n+7)/8:Nat):Int):=by
 unfold nby;rw[if_neg (by omega),←Int.natCast_mul];omega
theorem zic(x n:Int)(w:World)(hx0: -9223372036854775808≤x)(hx:x≤9223372036854775807)(hn0: -9223372036854775808≤n)(hn:n≤9223372036854775807):Calls Tryz.prog 180 #[.int .i64 x,.int .i64 n] w (zwk (nby x n) w):=by
 by_cases hg:0≤x∧x≤64∧0≤n∧n≤65536
 ·obtain⟨h1,h2,h3,h4⟩:=hg
  have p0:0≤x*n:=Int.mul_nonneg h1 h3;have p1:x*n≤64*65536:=Int.mul_le_mul h2 h4 h3 (by omega)
  have e:nby x n=(x*n+7)/8:=by unfold nby;rw[if_neg (by omega)]
  rw[e]
  have w1:wrap64 (x*n)=x*n:=by unfold wrap64;omega
  have w2:wrap64 (x*n+7)=x*n+7:=by unfold wrap64;omega
  have w3:(x*n+7).tdiv 8=(x*n+7)/8:=Int.tdiv_eq_ediv_of_nonneg (by omega)
  have w4:wrap64 ((x*n+7)/8)=(x*n+7)/8:=by unfold wrap64;omega
  clear e
  go_enter Tryz.func180,Tryz.ntmps180
  go_wp2
  all_goals first|(exfalso;omega)|go_ret
  exact⟨rfl,rfl⟩
 ·have e:nby x n= -1:=by unfold nby;rw[if_pos (by omega)]
  rw[e];clear e
  go_enter Tryz.func180,Tryz.ntmps180
  go_wp2
  all_goals first|(exfalso;omega)|go_ret
  all_goals exact⟨rfl,rfl⟩
theorem zqc(x n:Nat)(w:World)(hx:x≤64)(hn:n≤65536):Calls Tryz.prog 180 #[.int .i64 (x:Int),.int .i64 (n:Int)] w (zwk ((x*n+7)/8:Nat) w):=by
 have:=zic x n w (by omega) (by omega) (by omega) (by omega);rwa[znq x n hx hn] at this
open Go.RowKit Go.Hm
def zns(L:List Nat)(x:Int):Option (List Nat):=
 if 0≤x∧x≤64∧L.length≤65536∧(wid L:Int)≤x then some (low (pk x.toNat L) ((x.toNat*L.length+7)/8)) else none
def zbg(b:List Nat)(x n:Int):Option (List Nat):=
 if 0≤x∧x≤64∧0≤n∧n≤65536∧b.length=(x.toNat*n.toNat+7)/8∧num b<2^(x.toNat*n.toNat) then some (zpu x.toNat n.toNat (num b)) else none
set_option maxRecDepth 100000 in
theorem z37{w:World}{A:Option Addr}{n c:Nat}{L:List Nat}(x:Nat)(h:Reads w w.heap.size 1 A n (za3 .u64 L))(hL:∀x∈L,x≤18446744073709551615)(hn:n≤65536)(hx:x≤64)(hw:wid L≤x):
 Calls Tryz.prog 163 #[.slice A n c,.int .i64 (x:Int)] w (OptB (some (low (pk x L) ((x*n+7)/8))) w):=by
 obtain rfl:=h.len;obtain⟨s,hs⟩:∃s,s=(x*L.length+7)/8:=⟨_,rfl⟩;have hp:x*L.length≤64*65536:=Nat.mul_le_mul hx hn
 have hs1:s≤524288:=by omega
 have hs2:x*L.length≤8*s:=by omega
 have B1:=Hz (zqc x L.length w hx hn);rw[←hs] at B1⊢;have W1:=Hz (zka (c:=c) h hL (by omega));have HS:=Hz hs2;clear hs hs2 hp
 go_enter Tryz.func163,Tryz.ntmps163
 go_wp2_with (first
  |(go_at_call 180;refine B1.out.mono ?_;rintro e w1 ⟨rfl,rfl⟩)
  |(go_at_call 196;refine W1.out.mono ?_;rintro e w1 ⟨rfl,rfl⟩)
  |(refine zca elB rfl (.tmp 24) (.tmp 24) rfl (W:=w) (B:=w.heap.size) s s rfl rfl rfl rfl (by omega) (Below.refl _ _) (Nat.le_refl _) rfl (by omega) (by simp only[maxLen];omega) ?_
    intro w1 hown1 hg1 hb1 hs1))
 go_loopw [8,28] (fun a i wr=>∃k m:Nat,k≤L.length∧m=x*k∧i= .int .i64 (k:Int)∧a= .int .i64 (m:Int)∧Own wr w.heap.size 5 (.slice (some ⟨w.heap.size,0,none⟩) s s) (za3 .u8 (low (pk x (L.take k)) s))∧Below w.heap.size w wr) (fun _ i _=>L.length-(intOf i).toNat)
 case atStart=>exact⟨0,0,by omega,rfl,rfl,rfl,by simpa[pk,z9w,zbx] using hown1,hb1⟩
 case round=>
  obtain⟨k,m,hk,hm,rfl,rfl,hown,hb⟩:=hrel;by_cases hlt:k<L.length
  ·obtain⟨ad,rfl,hbl,hcell⟩:=(h.below hb).num hlt
   have hy:L.getD k 0<2^x:=(zgo L x hx hL).1 hw _ (by rw[List.getD_eq_getElem?_getD,List.getElem?_eq_getElem hlt];exact List.getElem_mem hlt)
   have hl0:L.getD k 0≤18446744073709551615:=by
    rw[List.getD_eq_getElem?_getD,List.getElem?_eq_getElem hlt];exact hL _ (List.getElem_mem hlt)
   have HT:=Hz (zad L k 0 hlt);have hX:=qgu x (L.take k) (fun z hz=>(zgo L x hx hL).1 hw z (List.mem_of_mem_take hz));rw[List.length_take,Nat.min_eq_left (by omega),←hm] at hX
   have hmx:m+x≤8*s:=by
    have h1:x*(k+1)≤x*L.length:=Nat.mul_le_mul_left _ hlt;rw[Nat.mul_succ] at h1;have:=HS.out;omega
   generalize L.getD k 0=y at*;generalize hpk:pk x (L.take k)=X at*;have HP:=Hz hpk;clear hpk;have Hm:=Hz hm;have HX:=Hz hX;have HY:=Hz hy;clear hm hX hy
   go_wp2
   obtain⟨wo,rfl⟩:∃wo:World,wo=wr:=⟨_,rfl⟩
   go_loopw [8,33] (fun a i wr=>∃j m':Nat,j≤x∧m'=m+j∧i= .int .i64 (j:Int)∧a= .int .i64 (m':Int)∧Own wr w.heap.size 5 (.slice (some ⟨w.heap.size,0,none⟩) s s) (za3 .u8 (low (X+y%2^j*2^m) s))∧Below w.heap.size w wr) (fun _ i _=>x-(intOf i).toNat)
   case atStart=>exact⟨0,m,by omega,rfl,rfl,rfl,by simpa[Nat.mod_one] using hown,hb⟩
   case round=>
    obtain⟨j,m',hj,hm',rfl,rfl,hown,hb⟩:=hrel;by_cases hlj:j<x
    ·have hm8:m'<8*s:=by omega
     obtain⟨q,r,hqr,q1,q2,q3,d1,d2⟩:=zrz m' (by omega);obtain⟨hg0,hgl,hc,hf,hset⟩:=hown.num0 (i:=q) (by omega);have Hm':=Hz hm';have Hset:=Hz hset;clear hm' hset;generalize hbb:(low (X+y%2^j*2^m) s).getD q 0=bb at*;have Hbb:=Hz hbb;clear hbb;obtain⟨t,ht,t1,t2,t3⟩:=qih y j hl0
     have hq4:(q:Int)<(s:Int):=by omega
     have hq5:(0:Int)≤(q:Int):=by omega
     have P:=z32 s y j m' q r t HX.out Hm'.out hm8 hqr.out ht.out;rw[Hbb.out] at P;obtain⟨z,hz⟩:∃z,z=bb+t*2^r:=⟨_,rfl⟩;have O:=qei bb r t P.1 t1 q2;rw[←hz] at O P;have HP:=Hz P.2;clear P hz
     go_wp2
     go_still_tail 15,(by kernel_rfl)
     go_wp2
     go_roundw
     case rel=>exact⟨j+1,m'+1,by omega,by have:=Hm'.out;omega,by go_num,by go_num,by rw[←HP.out];exact Hset.out z,by first|exact(hb.drew).setCell hg0 _|exact hb.setCell hg0 _⟩
     case measure=>simp[intOf];omega
    ·obtain rfl:j=x:=by omega
     go_wp2
     go_roundw
     case rel=>exact⟨k+1,m',by omega,by rw[hm',Hm.out,Nat.mul_succ],by go_num,rfl,by
      rw[HT.out,z3z,List.length_take,Nat.min_eq_left (by omega),←Hm.out,HP.out];rw[Nat.mod_eq_of_lt HY.out,Nat.mul_comm] at hown
      exact hown,hb⟩
     case measure=>simp[intOf];omega
  ·obtain rfl:k=L.length:=by omega
   rw[List.take_length] at hown
   go_wp2
   go_ret2
   exact⟨_,_,_,rfl,hown,hb⟩
set_option maxRecDepth 100000 in
theorem z9z{w:World}{A:Option Addr}{n c:Nat}{L:List Nat}(x:Int)(h:Reads w w.heap.size 1 A n (za3 .u64 L))(hL:∀x∈L,x≤18446744073709551615)(hn:n≤9223372036854775807)(hx0: -9223372036854775808≤x)(hx:x≤9223372036854775807)
 (hb: ¬(0≤x∧x≤64∧L.length≤65536∧(wid L:Int)≤x)):
 Calls Tryz.prog 163 #[.slice A n c,.int .i64 x] w (OptB none w):=by
 obtain rfl:=h.len;have B1:=Hz (zic x L.length w hx0 hx (by omega) (by omega));have W1:=Hz (zka (c:=c) h hL (by omega));by_cases hs:0≤x∧x≤64∧L.length≤65536
 ·have hy:x<(wid L:Int):=by omega
  have h0:0≤nby x L.length:=by
   unfold nby;rw[if_neg (by omega)];have:0≤x*(L.length:Int):=Int.mul_nonneg (by omega) (by omega);omega
  clear hb hs;generalize nby x L.length=B at*;generalize wid L=W at*
  go_enter Tryz.func163,Tryz.ntmps163
  go_wp2_with (first
   |(go_at_call 180;refine B1.out.mono ?_;rintro e w1 ⟨rfl,rfl⟩)
   |(go_at_call 196;refine W1.out.mono ?_;rintro e w1 ⟨rfl,rfl⟩))
  go_ret2
  exact⟨rfl,Below.refl _ _⟩
 ·have h0:nby x L.length= -1:=by unfold nby;rw[if_pos (by omega)]
  rw[h0] at B1;clear hb hs h0
  go_enter Tryz.func163,Tryz.ntmps163
  go_wp2_with (first
   |(go_at_call 180;refine B1.out.mono ?_;rintro e w1 ⟨rfl,rfl⟩))
  go_ret2
  exact⟨rfl,Below.refl _ _⟩
theorem zm3{w:World}{A:Option Addr}{n c:Nat}{L:List Nat}(x:Int)(h:Reads w w.heap.size 1 A n (za3 .u64 L))(hL:∀x∈L,x≤18446744073709551615)(hn:n≤9223372036854775807)(hx0: -9223372036854775808≤x)(hx:x≤9223372036854775807):
 Calls Tryz.prog 163 #[.slice A n c,.int .i64 x] w (OptB (zns L x) w):=by
 have hl:=h.len;unfold zns;split
 ·rename_i hg
  obtain⟨y,rfl⟩:=Int.eq_ofNat_of_zero_le hg.1;have:=z37 (c:=c) y h hL (by omega) (by omega) (by omega);rw[hl] at this⊢;exact this
 ·rename_i hg
  exact z9z x h hL hn hx0 hx hg
open Go.RowKit Go.Hm
def RCur(w:World)(B g:Nat)(l:List Nat)(bad:Bool):Prop:=
 ∃A c,Blk w g 95 #[.slice A l.length c,.bool bad]∧l.length≤c∧c≤maxLen∧Reads w B 1 A l.length (za3 .u8 l)∧B≤g∧(∀x∈l,x<256)
section
variable{w w':World}{B g:Nat}{l:List Nat}{bad:Bool}
theorem RCur.lt(h:RCur w B g l bad):g<w.heap.size:=by
 obtain⟨A,c,h1,_⟩:=h;exact h1.lt
theorem RCur.lt8(h:RCur w B g l bad):∀x∈l,x<256:=by
 obtain⟨A,c,_,_,_,_,_,h6⟩:=h;exact h6
theorem RCur.below(h:RCur w B g l bad)(hb:Below w.heap.size w w'):RCur w' B g l bad:=by
 obtain⟨A,c,h1,h2,h3,h4,h5,h6⟩:=h;exact⟨A,c,h1.below hb h1.lt,h2,h3,h4.below (hb.mono (by have:=h1.lt;omega)),h5,h6⟩
theorem RCur.keep{g':Nat}(h:RCur w B g l bad)(hg:w.grownBy w' (some g'))(hB:B≤g')(hne:g≠g'):RCur w' B g l bad:=by
 obtain⟨A,c,h1,h2,h3,h4,h5,h6⟩:=h;exact⟨A,c,h1.grown hg (by simpa using hne),h2,h3,h4.grown hg (by have:=h1.lt;omega) (fun g e=>by injection e with e;omega),h5,h6⟩
theorem RCur.blk(h:RCur w B g l bad):∃cs,Blk w g 95 cs:=by
 obtain⟨A,c,h1,_⟩:=h;exact⟨_,h1⟩
end
end Go.Proofs.YtmgfkpnghlmheaaGreat
namespace Go.Hm
end Go.Hm
namespace Go.Proofs.YtmgfkpnghlmheaaGreat
open Go.RowKit Go.Hm
def OverNew(l:List Nat)(w:World)(e:Ending)(w':World):Prop:=
 ∃g A c,e= .returned (.pointer (some ⟨g,0,none⟩))∧w.heap.size≤g∧Blk w' g 154 #[.slice A l.length c,.bool false]∧Own w' w.heap.size 5 (.slice A l.length c) (za3 .u8 l)∧Below w.heap.size w w'
theorem OverNew.cur{w:World}{g:Nat}{l:List Nat}{A:Option Addr}{c base:Nat}(h:Blk w g 154 #[.slice A l.length c,.bool false])(k:Own w base 5 (.slice A l.length c) (za3 .u8 l))(h8:∀x∈l,x<256):Cur w g l false:=by
 have hc:=k.cap;exact⟨A,c,h,hc.1,hc.2,TR.of_own k,h8,by simp⟩
end Go.Proofs.YtmgfkpnghlmheaaGreat
namespace Go.Hm
open Go Go.RowKit
theorem zoe{x y:Int}:zia x y≤0↔x≤y:=by
 unfold zia;split
 ·omega
 ·split<;> omega
theorem cmpI_zero{x y:Int}:zia x y=0↔x=y:=by
 unfold zia;split
 ·omega
 ·split<;> omega
theorem zm8(x y:Int):zia y x= -zia x y:=by
 unfold zia;by_cases h1:x<y
 ·rw[if_pos h1,if_neg (by omega),if_pos h1];rfl
 ·by_cases h2:y<x
  ·rw[if_pos h2,if_neg h1,if_pos h2]
  ·rw[if_neg h2,if_neg h1,if_neg h1,if_neg h2];rfl
theorem qid(a b c:Int):orI [a,b,c]=if a=0 then(if b=0 then c else b) else a:=by
 simp only[orI];by_cases h1:a=0<;> by_cases h2:b=0<;> by_cases h3:c=0<;> simp[h1,h2,h3]
theorem qbd(x y u v:Int):cmpP u v x y= -cmpP x y u v:=by
 unfold cmpP;rw[zm8 (x*x+y*y),zm8 x,zm8 y,qid,qid];by_cases h1:zia (x*x+y*y) (u*u+v*v)=0
 ·rw[if_pos (by omega),if_pos h1]
  by_cases h2:zia x u=0
  ·rw[if_pos (by omega),if_pos h2]
  ·rw[if_neg (by omega),if_neg h2]
 ·rw[if_neg (by omega),if_neg h1]
theorem z5u{x y u v:Int}:cmpP x y u v=0↔x=u∧y=v:=by
 unfold cmpP;rw[qid];constructor
 ·intro h
  split at h
  ·split at h
   ·rename_i h1 h2
    exact⟨cmpI_zero.1 h2,cmpI_zero.1 h⟩
   ·rename_i h1 h2
    exact absurd h h2
  ·rename_i h1
   exact absurd h h1
 ·rintro⟨rfl,rfl⟩
  simp[z5t]
theorem z5v{x y u v:Int}:cmpP x y u v≤0↔x*x+y*y<u*u+v*v∨(x*x+y*y=u*u+v*v∧(x<u∨(x=u∧y≤v))):=by
 unfold cmpP;rw[qid];generalize x*x+y*y=n;generalize u*u+v*v=m;have a1:= @zoe n m;have a2:= @cmpI_zero n m;have b1:= @zoe x u;have b2:= @cmpI_zero x u;have c1:= @zoe y v;split
 ·split
  ·omega
  ·omega
 ·omega
end Go.Hm
namespace Go.Hm
open Go Go.RowKit
theorem zg4{P:Program}{t:TypeId}{sz:Nat}(ht:P.underlying t=some (.slice (P.elem t)))(hs:∀w,(sizeOf (P.elem t)).run P w= .ok sz w)(A:Option Addr)(n c k m:Nat)(hk:k≤m)(hc:m≤c)(w:World):
 (Instr.sliceAt t (.slice A n c) (some (.int .i64 (k:Int))) (some (.int .i64 (m:Int))) none).run P w= .ok (.slice (if c=k then A else A.map (·.add (k*sz))) (m-k) (c-k)) w:=by
 rw[run_sliceAt_slice w t _ _ _ _ ht,run_slice_lh w t A n c ht .i64 .i64 (k:Int) (m:Int) (by omega) (by omega) (by omega),hs];simp[Result.andThen,sliced]
theorem qbp{P:Program}{t:TypeId}{sz:Nat}(ht:P.underlying t=some (.slice (P.elem t)))(hs:∀w,(sizeOf (P.elem t)).run P w= .ok sz w)(A:Option Addr)(n c m:Nat)(hc:m≤c)(w:World):
 (Instr.sliceAt t (.slice A n c) none (some (.int .i64 (m:Int))) none).run P w= .ok (.slice A m c) w:=by
 rw[run_sliceAt_slice w t _ _ _ _ ht,run_slice_h w t A n c ht .i64 (m:Int) (by omega) (by omega),hs]
 have e:∀a:Addr,a.add 0=a:=fun a=>by simp[Addr.add]
 cases A<;> simp[Result.andThen,sliced,e]
theorem zsp{P:Program}{t:TypeId}{sz:Nat}(ht:P.underlying t=some (.slice (P.elem t)))(hs:∀w,(sizeOf (P.elem t)).run P w= .ok sz w)(A:Option Addr)(n c k:Nat)(hk:k≤n)(w:World):
 (Instr.sliceAt t (.slice A n c) (some (.int .i64 (k:Int))) none none).run P w= .ok (.slice (if c=k then A else A.map (·.add (k*sz))) (n-k) (c-k)) w:=by
 rw[run_sliceAt_slice w t _ _ _ _ ht,run_slice_l w t A n c ht .i64 (k:Int) (by omega) (by omega),hs];simp[Result.andThen,sliced]
end Go.Hm
namespace Go.Hm
open Go Go.RowKit
theorem zz7{w:World}{g:Nat}{ty:TypeId}{x y a b:Value}(h:Blk w g ty #[x,y]):Blk ((w.setCell ⟨g,0,none⟩ a).setCell ⟨g,1,none⟩ b) g ty #[a,b]:=by
 simpa using((h.set_ 0 a).set_ 1 b)
theorem zo8{g i:Nat}(u:Value)(w:World):Far g w (w.setCell ⟨g,i,none⟩ u):=
 ⟨rfl,rfl,rfl,by simp[World.setCell],fun k _ hne=>Below.heap_setCell _ _ _ _ (by rintro rfl;exact hne rfl)⟩
theorem znk{g:Nat}(a b:Value)(w:World):Far g w ((w.setCell ⟨g,0,none⟩ a).setCell ⟨g,1,none⟩ b):=Far.trans (zo8 a w) (zo8 b _)
end Go.Hm
namespace Go.Proofs.YtmgfkpnghlmheaaGreat
open Go.RowKit Go.Hm
set_option maxRecDepth 100000 in
theorem qd0{w:World}{x y:Int}{a b:Nat}(h:ztq x y a b)(hx: -9223372036854775808≤x∧x≤9223372036854775807)(hy: -9223372036854775808≤y∧y≤9223372036854775807):
 Calls Tryz.prog 244 #[.complex .f64 a b] w (zap (.agg #[.int .i64 x,.int .i64 y]) w):=by
 have f1:=fun w:World=>run_convert_float_int (P:=Tryz.prog) w 220 3 .f64 .i64 a _ (by kernel_rfl) (by kernel_rfl) (zxb h.1 hx)
 have f2:=fun w:World=>run_convert_float_int (P:=Tryz.prog) w 220 3 .f64 .i64 b _ (by kernel_rfl) (by kernel_rfl) (zxb h.2 hy)
 have b0:New w (w.alloc (.cells #[.int .i64 x,.int .i64 y] 59)):=(Below.refl _ _).alloc (Nat.le_refl _) _;obtain⟨s0,s1⟩:=zbe (Blk.new w 59 #[.int .i64 x,.int .i64 y]);clear h hx hy
 go_enter Tryz.func244,Tryz.ntmps244
 go_wp2
 exact bodyPost_ret (v:= .agg #[.int .i64 x,.int .i64 y]) (by simp[results,Tryz.results244,go_sem,s0,s1]) rfl ⟨rfl,b0⟩
set_option maxRecDepth 100000 in
theorem qb7{w:World}{x y u v:Int}(hx: -2097152≤x∧x≤2097152)(hy: -2097152≤y∧y≤2097152)(hu: -2097152≤u∧u≤2097152)(hv: -2097152≤v∧v≤2097152):
 Calls Tryz.prog 242 #[.agg #[.int .i64 x,.int .i64 y],.agg #[.int .i64 u,.int .i64 v]] w (zap (.agg #[.int .i64 (x+u),.int .i64 (y+v)]) w):=by
 obtain⟨W0,hW0⟩:∃W,W=((w.alloc (.cells #[.int .i64 x,.int .i64 y] 59)).alloc (.cells #[.int .i64 u,.int .i64 v] 59)).alloc (.cells #[.int .i64 0,.int .i64 0] 59):=⟨_,rfl⟩
 have b0:New w W0:=by rw[hW0];exact(((Below.refl _ _).alloc (Nat.le_refl _) _).alloc (by simp) _).alloc (by simp;omega) _
 have e1:(w.alloc (.cells #[.int .i64 x,.int .i64 y] 59)).heap.size=w.heap.size+1:=by simp
 have e2:((w.alloc (.cells #[.int .i64 x,.int .i64 y] 59)).alloc (.cells #[.int .i64 u,.int .i64 v] 59)).heap.size=w.heap.size+1+1:=by simp
 have A0:Blk W0 w.heap.size 59 #[.int .i64 x,.int .i64 y]:=by rw[hW0];exact((Blk.new _ _ _).alloc _).alloc _
 have B0:Blk W0 (w.heap.size+1) 59 #[.int .i64 u,.int .i64 v]:=by rw[hW0,←e1];exact(Blk.new _ _ _).alloc _
 have C0:Blk W0 (w.heap.size+1+1) 59 #[.int .i64 0,.int .i64 0]:=by rw[hW0,←e2];exact Blk.new _ _ _
 have F:=Hz (fun(W:World) (hW:Far (w.heap.size+1+1) W0 W)=>And.intro (zbe (A0.grown hW (by simp;omega))) (zbe (B0.grown hW (by simp))));have HC:=Hz C0;have HW:=Hz hW0;have HB:=Hz b0;have P1:=Hz (fun(W:World)=>zg1 (w:=W) (x:=x) (y:=y) (by omega) (by omega));have P2:=Hz (fun(W:World)=>zg1 (w:=W) (x:=u) (y:=v) (by omega) (by omega))
 have P3:=Hz (fun(W:World) (a b c d:Nat) (h1:ztq x y a b) (h2:ztq u v c d)=>show∃re im,cSumBits .add .f64 a b c d=some (re,im)∧∀W:World,Calls Tryz.prog 244 #[.complex .f64 re im] W (zap (.agg #[.int .i64 (x+u),.int .i64 (y+v)]) W) by
  obtain⟨re,im,k1,k2⟩:=qa9 h1 h2 (by omega) (by omega)
  exact⟨re,im,k1,fun W=>qd0 k2 (by omega) (by omega)⟩)
 generalize x+u=rx at*;generalize y+v=ry at*;clear A0 B0 C0 hW0 b0 e1 e2 hx hy hu hv
 go_enter Tryz.func242,Tryz.ntmps242
 go_wp2_with fail
 rw[←HW.out]
 refine zat (Far (w.heap.size+1+1)) [(true,0),(true,2),(false,1),(false,3),(true,4),(false,5),(false,6)]
  (Far.refl _) Far.trans (by kernel_rfl) (by kernel_rfl) (by kernel_rfl) (by kernel_rfl) ?_
 have hN:=New.drew W0
 iterate 2 (
  refine za2 rfl rfl (v:=?_) (fun W hW=>?_) ?_
  rotate_left
  ·obtain⟨⟨x0,x1⟩,⟨y0,y1⟩⟩:=F.out W (Far.trans (Far.of_new hN) hW)
   go_simp<;> with_reducible rfl
  simp only[Act.put,List.setIfInBounds_toArray,List.set_cons_zero,List.set_cons_succ])
 refine zba rfl rfl (fun K hK=>?_)
 go_simp
 (with_reducible refine(P1.out _).mono ?_)
 rintro e w1 ⟨a,b,rfl,hr1,c1⟩;refine hK _ _ (Far.of_new c1) ?_;clear hK;replace hN:=New.trans hN c1;refine zba rfl rfl (fun K hK=>?_)
 go_simp
 (with_reducible refine(P2.out _).mono ?_)
 rintro e w2 ⟨c,d,rfl,hr2,c2⟩;refine hK _ _ (Far.of_new c2) ?_;clear hK;replace hN:=New.trans hN c2;obtain⟨re,im,k1,k2⟩:=P3.out w2 a b c d hr1 hr2;have K2:=Hz k2
 have m:=fun w:World=>run_complex_sum (P:=Tryz.prog) w .add (.inl rfl) 218 .f64 a b c d re im k1
 clear k1 k2 hr1 hr2 P1 P2 P3;refine za2 rfl rfl (v:=?_) (fun W hW=>?_) ?_
 rotate_left
 ·go_simp<;> with_reducible rfl
 simp only[Act.put,List.setIfInBounds_toArray,List.set_cons_zero,List.set_cons_succ];clear m;refine zba rfl rfl (fun K hK=>?_)
 go_simp
 (with_reducible refine(K2.out _).mono ?_)
 rintro e w3 ⟨rfl,c3⟩;refine hK _ _ (Far.of_new c3) ?_;clear hK;replace hN:=New.trans hN c3;have C3:=HC.out.below hN HC.out.lt;obtain⟨z0,z1⟩:=zbe C3;have f0:=C3.frozen 0;have f1:=C3.frozen 1;have S3:=Hz (zz7 C3 (a:= .int .i64 rx) (b:= .int .i64 ry));have hF:=znk (g:=w.heap.size+1+1) (.int .i64 rx) (.int .i64 ry) w3;clear C3;refine zba rfl rfl (fun K hK=>?_)
 go_simp
 refine hK _ _ hF ?_;clear hK z0 z1 f0 f1;refine zc2 ?_;obtain⟨s0,s1⟩:=zbe S3.out;have bE:=New.far HB.out (Far.trans (Far.of_new hN) hF) (by omega);clear hF S3
 go_wp2
 exact bodyPost_ret (v:= .agg #[.int .i64 rx,.int .i64 ry]) (by simp[results,Tryz.results242,go_sem,s0,s1]) rfl ⟨rfl,bE⟩
set_option maxRecDepth 100000 in
theorem qb8{w:World}{x y u v:Int}(hx: -2097152≤x∧x≤2097152)(hy: -2097152≤y∧y≤2097152)(hu: -2097152≤u∧u≤2097152)(hv: -2097152≤v∧v≤2097152):
 Calls Tryz.prog 240 #[.agg #[.int .i64 x,.int .i64 y],.agg #[.int .i64 u,.int .i64 v]] w (zap (.agg #[.int .i64 (x-u),.int .i64 (y-v)]) w):=by
 obtain⟨W0,hW0⟩:∃W,W=((w.alloc (.cells #[.int .i64 x,.int .i64 y] 59)).alloc (.cells #[.int .i64 u,.int .i64 v] 59)).alloc (.cells #[.int .i64 0,.int .i64 0] 59):=⟨_,rfl⟩
 have b0:New w W0:=by rw[hW0];exact(((Below.refl _ _).alloc (Nat.le_refl _) _).alloc (by simp) _).alloc (by simp;omega) _
 have e1:(w.alloc (.cells #[.int .i64 x,.int .i64 y] 59)).heap.size=w.heap.size+1:=by simp
 have e2:((w.alloc (.cells #[.int .i64 x,.int .i64 y] 59)).alloc (.cells #[.int .i64 u,.int .i64 v] 59)).heap.size=w.heap.size+1+1:=by simp
 have A0:Blk W0 w.heap.size 59 #[.int .i64 x,.int .i64 y]:=by rw[hW0];exact((Blk.new _ _ _).alloc _).alloc _
 have B0:Blk W0 (w.heap.size+1) 59 #[.int .i64 u,.int .i64 v]:=by rw[hW0,←e1];exact(Blk.new _ _ _).alloc _
 have C0:Blk W0 (w.heap.size+1+1) 59 #[.int .i64 0,.int .i64 0]:=by rw[hW0,←e2];exact Blk.new _ _ _
 have F:=Hz (fun(W:World) (hW:Far (w.heap.size+1+1) W0 W)=>And.intro (zbe (A0.grown hW (by simp;omega))) (zbe (B0.grown hW (by simp))));have HC:=Hz C0;have HW:=Hz hW0;have HB:=Hz b0;have P1:=Hz (fun(W:World)=>zg1 (w:=W) (x:=x) (y:=y) (by omega) (by omega));have P2:=Hz (fun(W:World)=>zg1 (w:=W) (x:=u) (y:=v) (by omega) (by omega))
 have P3:=Hz (fun(W:World) (a b c d:Nat) (h1:ztq x y a b) (h2:ztq u v c d)=>show∃re im,cSumBits .sub .f64 a b c d=some (re,im)∧∀W:World,Calls Tryz.prog 244 #[.complex .f64 re im] W (zap (.agg #[.int .i64 (x-u),.int .i64 (y-v)]) W) by
  obtain⟨re,im,k1,k2⟩:=qba h1 h2 (by omega) (by omega)
  exact⟨re,im,k1,fun W=>qd0 k2 (by omega) (by omega)⟩)
 generalize x-u=rx at*;generalize y-v=ry at*;clear A0 B0 C0 hW0 b0 e1 e2 hx hy hu hv
 go_enter Tryz.func240,Tryz.ntmps240
 go_wp2_with fail
 rw[←HW.out]
 refine zat (Far (w.heap.size+1+1)) [(true,0),(true,2),(false,1),(false,3),(true,4),(false,5),(false,6)]
  (Far.refl _) Far.trans (by kernel_rfl) (by kernel_rfl) (by kernel_rfl) (by kernel_rfl) ?_
 have hN:=New.drew W0
 iterate 2 (
  refine za2 rfl rfl (v:=?_) (fun W hW=>?_) ?_
  rotate_left
  ·obtain⟨⟨x0,x1⟩,⟨y0,y1⟩⟩:=F.out W (Far.trans (Far.of_new hN) hW)
   go_simp<;> with_reducible rfl
  simp only[Act.put,List.setIfInBounds_toArray,List.set_cons_zero,List.set_cons_succ])
 refine zba rfl rfl (fun K hK=>?_)
 go_simp
 (with_reducible refine(P1.out _).mono ?_)
 rintro e w1 ⟨a,b,rfl,hr1,c1⟩;refine hK _ _ (Far.of_new c1) ?_;clear hK;replace hN:=New.trans hN c1;refine zba rfl rfl (fun K hK=>?_)
 go_simp
 (with_reducible refine(P2.out _).mono ?_)
 rintro e w2 ⟨c,d,rfl,hr2,c2⟩;refine hK _ _ (Far.of_new c2) ?_;clear hK;replace hN:=New.trans hN c2;obtain⟨re,im,k1,k2⟩:=P3.out w2 a b c d hr1 hr2;have K2:=Hz k2
 have m:=fun w:World=>run_complex_sum (P:=Tryz.prog) w .sub (.inr rfl) 218 .f64 a b c d re im k1
 clear k1 k2 hr1 hr2 P1 P2 P3;refine za2 rfl rfl (v:=?_) (fun W hW=>?_) ?_
 rotate_left
 ·go_simp<;> with_reducible rfl
 simp only[Act.put,List.setIfInBounds_toArray,List.set_cons_zero,List.set_cons_succ];clear m;refine zba rfl rfl (fun K hK=>?_)
 go_simp
 (with_reducible refine(K2.out _).mono ?_)
 rintro e w3 ⟨rfl,c3⟩;refine hK _ _ (Far.of_new c3) ?_;clear hK;replace hN:=New.trans hN c3;have C3:=HC.out.below hN HC.out.lt;obtain⟨z0,z1⟩:=zbe C3;have f0:=C3.frozen 0;have f1:=C3.frozen 1;have S3:=Hz (zz7 C3 (a:= .int .i64 rx) (b:= .int .i64 ry));have hF:=znk (g:=w.heap.size+1+1) (.int .i64 rx) (.int .i64 ry) w3;clear C3;refine zba rfl rfl (fun K hK=>?_)
 go_simp
 refine hK _ _ hF ?_;clear hK z0 z1 f0 f1;refine zc2 ?_;obtain⟨s0,s1⟩:=zbe S3.out;have bE:=New.far HB.out (Far.trans (Far.of_new hN) hF) (by omega);clear hF S3
 go_wp2
 exact bodyPost_ret (v:= .agg #[.int .i64 rx,.int .i64 ry]) (by simp[results,Tryz.results240,go_sem,s0,s1]) rfl ⟨rfl,bE⟩
end Go.Proofs.YtmgfkpnghlmheaaGreat
