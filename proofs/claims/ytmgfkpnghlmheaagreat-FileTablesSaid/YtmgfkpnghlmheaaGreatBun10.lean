/- Merged. -/
import Derived.Deep.DeepCutAuto
import Derived.StillTailTactics
import Derived.Test.YtmgfkpnghlmheaaGreatBun8
import Derived.Test.YtmgfkpnghlmheaaGreatBun9
set_option maxHeartbeats 2000000
namespace Go.Proofs.Y
open Go.RowKit Go.Hm
def zc6(l:List Nat)(w:World)(e:Ending)(w':World):Prop:=
 ∃A n c,e= .returned (.slice A n c)/\Own w' w.heap.size 5 (.slice A n c) (za3 .u8 l)/\Below w.heap.size w w'
open Go.RowKit Go.Hm
set_option maxRecDepth 100000 in
theorem qen{w:World}{A:Option Addr}{n c:Nat}{l:List Nat}(x:Nat)(h:Reads w w.heap.size 1 A n (za3 .u8 l))(hl:n<=140737488355200):
 Calls Tryz.prog 65 #[.slice A n c,.int .u32 (x:Int),.int .i64 4] w (zc6 (l++low x 4) w):=by
 obtain rfl:=h.len;go_enter Tryz.func65,Tryz.ntmps65
 go_wp2_with (first
  |(refine zb7 elB rfl (.tmp 10) (.tmp 14) rfl (W:=w) (B:=w.heap.size) l.length (l.length+4) rfl rfl rfl (by simp) (by omega) (Below.refl _ _) (Nat.le_refl _) rfl (by omega) (by simp only[maxLen];omega) ?_
    intro w1 hown1 hg1 hb1 hs1)
  |(refine znz elB rfl (.tmp 16) (.tmp 17) rfl (W:=w) (B:=w.heap.size) hown1 (h.grown_far hg1 (by simp)) rfl rfl l.length (Nat.min_self _) hb1 (Nat.le_refl _) (zcp _ _) ?_
    intro w2 hown2 hg2 hb2 hs2))
 rw[List.take_of_length_le (by rw[zaa];omega),List.drop_of_length_le (by simp),List.append_nil] at hown2;have hs0:=hb2.size;clear hown1 hg1 hb1 hs1 hg2 hs2;go_loopw [7,20] (fun v i wr=>∃(k:Nat) (A:Option Addr) (c:Nat),k<=4/\i= .int .i64 (k:Int)/\v= .slice A (l.length+k) c/\Own wr w.heap.size 5 (.slice A (l.length+k) c) (za3 .u8 (l++low x k))/\Below w.heap.size w wr) (fun _ i _=>4-(intOf i).toNat)
 case atStart=>exact⟨0,_,_,by omega,rfl,rfl,by simpa[low] using hown2,hb2⟩
 case round=>
  obtain⟨k,A',c',hk,rfl,rfl,hown,hb⟩:=hrel;have hz:=hb.size;by_cases hlt:k<4
  ·have S:=Hz (z3y x k)
   have hlen:(l++low x k).length=l.length+k:=by rw[List.length_append,zbg]
   have HL:=Hz hlen;clear hlen;go_wp2_with (first
    |(refine zdp elB rfl (.tmp 23) (.tmp 29) rfl (W:=w) (B:=w.heap.size) hown rfl rfl (x/256^k%256) (by rw[S.out]) hb (Nat.le_refl _) (by omega) (by omega) (by simp only[maxLen];omega) ?_
      intro A3 c3 w3 _ _ hown3 hg3 hb3 _ _))
   go_roundw
   case rel=>exact⟨k+1,A3,c3,by omega,by go_num,rfl,by rw[List.append_assoc] at hown3;exact hown3,hb3⟩
   case measure=>simp[intOf];omega
  ·obtain rfl:k=4:=by omega
   go_wp2
   go_ret
   exact⟨A',_,c',rfl,hown,hb⟩
set_option maxRecDepth 100000 in
theorem qeo{w:World}{A:Option Addr}{n c:Nat}{l:List Nat}(x:Nat)(h:Reads w w.heap.size 1 A n (za3 .u8 l))(hl:n<=140737488355200):
 Calls Tryz.prog 30 #[.slice A n c,.int .u32 (x:Int)] w (zc6 (l++low x 4) w):=by
 obtain rfl:=h.len;go_enter Tryz.func30,Tryz.ntmps30
 go_wp2_with (go_at_call 65;refine(qen x h hl).mono ?_;rintro e w1 ⟨A',n',c',rfl,k1,k2⟩)
 go_ret
 exact⟨A',n',c',rfl,k1,k2⟩
set_option maxRecDepth 100000 in
theorem qep{w:World}{A:Option Addr}{n c:Nat}{l:List Nat}(x:Nat)(h:Reads w w.heap.size 1 A n (za3 .u8 l))(hl:n<=140737488355200):
 Calls Tryz.prog 202 #[.slice A n c,.int .u64 (x:Int),.int .i64 8] w (zc6 (l++low x 8) w):=by
 obtain rfl:=h.len;go_enter Tryz.func202,Tryz.ntmps202
 go_wp2_with (first
  |(refine zb7 elB rfl (.tmp 10) (.tmp 14) rfl (W:=w) (B:=w.heap.size) l.length (l.length+8) rfl rfl rfl (by simp) (by omega) (Below.refl _ _) (Nat.le_refl _) rfl (by omega) (by simp only[maxLen];omega) ?_
    intro w1 hown1 hg1 hb1 hs1)
  |(refine znz elB rfl (.tmp 16) (.tmp 17) rfl (W:=w) (B:=w.heap.size) hown1 (h.grown_far hg1 (by simp)) rfl rfl l.length (Nat.min_self _) hb1 (Nat.le_refl _) (zcp _ _) ?_
    intro w2 hown2 hg2 hb2 hs2))
 rw[List.take_of_length_le (by rw[zaa];omega),List.drop_of_length_le (by simp),List.append_nil] at hown2;have hs0:=hb2.size;clear hown1 hg1 hb1 hs1 hg2 hs2;go_loopw [7,20] (fun v i wr=>∃(k:Nat) (A:Option Addr) (c:Nat),k<=8/\i= .int .i64 (k:Int)/\v= .slice A (l.length+k) c/\Own wr w.heap.size 5 (.slice A (l.length+k) c) (za3 .u8 (l++low x k))/\Below w.heap.size w wr) (fun _ i _=>8-(intOf i).toNat)
 case atStart=>exact⟨0,_,_,by omega,rfl,rfl,by simpa[low] using hown2,hb2⟩
 case round=>
  obtain⟨k,A',c',hk,rfl,rfl,hown,hb⟩:=hrel;have hz:=hb.size;by_cases hlt:k<8
  ·have S:=Hz (z3y x k)
   have hlen:(l++low x k).length=l.length+k:=by rw[List.length_append,zbg]
   have HL:=Hz hlen;clear hlen;go_wp2_with (first
    |(refine zdp elB rfl (.tmp 23) (.tmp 29) rfl (W:=w) (B:=w.heap.size) hown rfl rfl (x/256^k%256) (by rw[S.out]) hb (Nat.le_refl _) (by omega) (by omega) (by simp only[maxLen];omega) ?_
      intro A3 c3 w3 _ _ hown3 hg3 hb3 _ _))
   go_roundw
   case rel=>exact⟨k+1,A3,c3,by omega,by go_num,rfl,by rw[List.append_assoc] at hown3;exact hown3,hb3⟩
   case measure=>simp[intOf];omega
  ·obtain rfl:k=8:=by omega
   go_wp2
   go_ret
   exact⟨A',_,c',rfl,hown,hb⟩
set_option maxRecDepth 100000 in
theorem qeq{w:World}{A:Option Addr}{n c:Nat}{l:List Nat}(x:Nat)(h:Reads w w.heap.size 1 A n (za3 .u8 l))(hl:n<=140737488355200):
 Calls Tryz.prog 178 #[.slice A n c,.int .u64 (x:Int)] w (zc6 (l++low x 8) w):=by
 obtain rfl:=h.len;go_enter Tryz.func178,Tryz.ntmps178
 go_wp2_with (go_at_call 202;refine(qep x h hl).mono ?_;rintro e w1 ⟨A',n',c',rfl,k1,k2⟩)
 go_ret
 exact⟨A',n',c',rfl,k1,k2⟩
open Go.RowKit Go.Hm
theorem zwm{w:World}{g:Nat}{l:List Nat}(n:Nat)(h:Cur w g l false)(hn:n<=l.length)(hs:n<=1):
 Calls Tryz.prog 158 #[.pointer (some ⟨g,0,none⟩),.int .i64 (n:Int)] w (zdd (.returned (.int .u8 (num (l.take n):Int))) g (l.drop n) false w):=by
 have hlt:(l.take n).length=n:=by rw[List.length_take];omega
 have N:=Hz (zkh h hn);have h8:∀x∈l.take n,x<256:=by obtain⟨A,c,_,_,_,_,h5,_⟩:=h;exact fun x hx=>h5 x (List.mem_of_mem_take hx)
 unfold zkg at N;generalize l.take n=T at*;generalize hD:l.drop n=D at*;clear hD h hn;go_enter Tryz.func158,Tryz.ntmps158
 go_wp2_with (first
  |(go_at_call 148;refine N.out.mono ?_;rintro e w1 ⟨A',c',rfl,k1,k2,k3⟩
    have k4:=k1.1))
 clear N;subst hlt;go_loop [5,12] (fun v i=>∃k:Nat,k<=T.length/\i= .int .i64 (k:Int)/\v= .int .u8 (num (T.take k):Int)) (fun _ i=>T.length-(intOf i).toNat)
 case atStart=>exact⟨0,by omega,rfl,by simp[num]⟩
 case round=>
  obtain⟨k,hk,rfl,rfl⟩:=hrel;by_cases hlt':k<T.length
  ·obtain⟨ad,rfl,hb,hcell⟩:=k4.num hlt'
   have S:=Hz (zwl T k hlt' hs h8);generalize T.getD k 0=x at*;go_wp2
   go_round
   case rel=>exact⟨k+1,by omega,by go_num,by rw[S.out]⟩
   case measure=>simp[intOf];omega
  ·obtain rfl:k=T.length:=by omega
   go_wp2
   go_ret
   exact⟨rfl,k2,k3⟩
theorem z01{w:World}{g:Nat}{l:List Nat}{bad:Bool}{n:Int}(h:Cur w g l bad)(hn:bad=true\/n<0\/(l.length:Int)<n)(h1: -9223372036854775808<=n)(h2:n<=9223372036854775807):
 Calls Tryz.prog 158 #[.pointer (some ⟨g,0,none⟩),.int .i64 n] w (zdd (.returned (.int .u8 0)) g [] true w):=by
 have HN:=Hz (zsa h hn h1 h2);clear hn h1 h2 h;go_enter Tryz.func158,Tryz.ntmps158
 go_wp2_with (first
  |(go_at_call 148;refine HN.out.mono ?_;rintro e w1 ⟨rfl,k1,k2⟩))
 refine wp_loop_rounds 1 ?_;rw[rounds_succ];go_wp2
 go_ret
 exact⟨rfl,k1,k2⟩
theorem z31{w:World}{g:Nat}{l:List Nat}(h:Cur w g l false)(hn:1<=l.length):
 Calls Tryz.prog 122 #[.pointer (some ⟨g,0,none⟩)] w (zdd (.returned (.int .u8 (num (l.take 1):Int))) g (l.drop 1) false w):=by
 have N:=Hz (zwm 1 h hn (by omega));go_enter Tryz.func122,Tryz.ntmps122
 go_wp2_with (go_at_call 158;refine N.out.mono ?_;rintro e w1 ⟨rfl,k1,k2⟩)
 go_ret
 exact⟨rfl,k1,k2⟩
theorem zm8{w:World}{g:Nat}{l:List Nat}{bad:Bool}(h:Cur w g l bad)(hn:bad=true\/l.length<1):
 Calls Tryz.prog 122 #[.pointer (some ⟨g,0,none⟩)] w (zdd (.returned (.int .u8 0)) g [] true w):=by
 have N:=Hz (z01 (n:=1) h (by rcases hn with hn|hn;exact .inl hn;exact .inr (.inr (by omega))) (by omega) (by omega));clear hn;go_enter Tryz.func122,Tryz.ntmps122
 go_wp2_with (go_at_call 158;refine N.out.mono ?_;rintro e w1 ⟨rfl,k1,k2⟩)
 go_ret
 exact⟨rfl,k1,k2⟩
theorem zt0{w:World}{g:Nat}{l:List Nat}(n:Nat)(h:Cur w g l false)(hn:n<=l.length)(hs:n<=4):
 Calls Tryz.prog 108 #[.pointer (some ⟨g,0,none⟩),.int .i64 (n:Int)] w (zdd (.returned (.int .u32 (num (l.take n):Int))) g (l.drop n) false w):=by
 have hlt:(l.take n).length=n:=by rw[List.length_take];omega
 have N:=Hz (zkh h hn);have h8:∀x∈l.take n,x<256:=by obtain⟨A,c,_,_,_,_,h5,_⟩:=h;exact fun x hx=>h5 x (List.mem_of_mem_take hx)
 unfold zkg at N;generalize l.take n=T at*;generalize hD:l.drop n=D at*;clear hD h hn;go_enter Tryz.func108,Tryz.ntmps108
 go_wp2_with (first
  |(go_at_call 148;refine N.out.mono ?_;rintro e w1 ⟨A',c',rfl,k1,k2,k3⟩
    have k4:=k1.1))
 clear N;subst hlt;go_loop [5,12] (fun v i=>∃k:Nat,k<=T.length/\i= .int .i64 (k:Int)/\v= .int .u32 (num (T.take k):Int)) (fun _ i=>T.length-(intOf i).toNat)
 case atStart=>exact⟨0,by omega,rfl,by simp[num]⟩
 case round=>
  obtain⟨k,hk,rfl,rfl⟩:=hrel;by_cases hlt':k<T.length
  ·obtain⟨ad,rfl,hb,hcell⟩:=k4.num hlt'
   have S:=Hz (ztx T k hlt' hs h8);generalize T.getD k 0=x at*;go_wp2
   go_round
   case rel=>exact⟨k+1,by omega,by go_num,by rw[S.out]⟩
   case measure=>simp[intOf];omega
  ·obtain rfl:k=T.length:=by omega
   go_wp2
   go_ret
   exact⟨rfl,k2,k3⟩
theorem z9w{w:World}{g:Nat}{l:List Nat}(h:Cur w g l false)(hn:4<=l.length):
 Calls Tryz.prog 77 #[.pointer (some ⟨g,0,none⟩)] w (zdd (.returned (.int .u32 (num (l.take 4):Int))) g (l.drop 4) false w):=by
 have N:=Hz (zt0 4 h hn (by omega));go_enter Tryz.func77,Tryz.ntmps77
 go_wp2_with (go_at_call 108;refine N.out.mono ?_;rintro e w1 ⟨rfl,k1,k2⟩)
 go_ret
 exact⟨rfl,k1,k2⟩
theorem zt1{w:World}{g:Nat}{l:List Nat}(n:Nat)(h:Cur w g l false)(hn:n<=l.length)(hs:n<=8):
 Calls Tryz.prog 237 #[.pointer (some ⟨g,0,none⟩),.int .i64 (n:Int)] w (zdd (.returned (.int .u64 (num (l.take n):Int))) g (l.drop n) false w):=by
 have hlt:(l.take n).length=n:=by rw[List.length_take];omega
 have N:=Hz (zkh h hn);have h8:∀x∈l.take n,x<256:=by obtain⟨A,c,_,_,_,_,h5,_⟩:=h;exact fun x hx=>h5 x (List.mem_of_mem_take hx)
 unfold zkg at N;generalize l.take n=T at*;generalize hD:l.drop n=D at*;clear hD h hn;go_enter Tryz.func237,Tryz.ntmps237
 go_wp2_with (first
  |(go_at_call 148;refine N.out.mono ?_;rintro e w1 ⟨A',c',rfl,k1,k2,k3⟩
    have k4:=k1.1))
 clear N;subst hlt;go_loop [5,12] (fun v i=>∃k:Nat,k<=T.length/\i= .int .i64 (k:Int)/\v= .int .u64 (num (T.take k):Int)) (fun _ i=>T.length-(intOf i).toNat)
 case atStart=>exact⟨0,by omega,rfl,by simp[num]⟩
 case round=>
  obtain⟨k,hk,rfl,rfl⟩:=hrel;by_cases hlt':k<T.length
  ·obtain⟨ad,rfl,hb,hcell⟩:=k4.num hlt'
   have S:=Hz (zty T k hlt' hs h8);generalize T.getD k 0=x at*;go_wp2
   go_round
   case rel=>exact⟨k+1,by omega,by go_num,by rw[S.out]⟩
   case measure=>simp[intOf];omega
  ·obtain rfl:k=T.length:=by omega
   go_wp2
   go_ret
   exact⟨rfl,k2,k3⟩
theorem zwn{w:World}{g:Nat}{l:List Nat}{bad:Bool}{n:Int}(h:Cur w g l bad)(hn:bad=true\/n<0\/(l.length:Int)<n)(h1: -9223372036854775808<=n)(h2:n<=9223372036854775807):
 Calls Tryz.prog 237 #[.pointer (some ⟨g,0,none⟩),.int .i64 n] w (zdd (.returned (.int .u64 0)) g [] true w):=by
 have HN:=Hz (zsa h hn h1 h2);clear hn h1 h2 h;go_enter Tryz.func237,Tryz.ntmps237
 go_wp2_with (first
  |(go_at_call 148;refine HN.out.mono ?_;rintro e w1 ⟨rfl,k1,k2⟩))
 refine wp_loop_rounds 1 ?_;rw[rounds_succ];go_wp2
 go_ret
 exact⟨rfl,k1,k2⟩
theorem z9x{w:World}{g:Nat}{l:List Nat}(h:Cur w g l false)(hn:8<=l.length):
 Calls Tryz.prog 221 #[.pointer (some ⟨g,0,none⟩)] w (zdd (.returned (.int .u64 (num (l.take 8):Int))) g (l.drop 8) false w):=by
 have N:=Hz (zt1 8 h hn (by omega));go_enter Tryz.func221,Tryz.ntmps221
 go_wp2_with (go_at_call 237;refine N.out.mono ?_;rintro e w1 ⟨rfl,k1,k2⟩)
 go_ret
 exact⟨rfl,k1,k2⟩
theorem z32{w:World}{g:Nat}{l:List Nat}{bad:Bool}(h:Cur w g l bad)(hn:bad=true\/l.length<8):
 Calls Tryz.prog 221 #[.pointer (some ⟨g,0,none⟩)] w (zdd (.returned (.int .u64 0)) g [] true w):=by
 have N:=Hz (zwn (n:=8) h (by rcases hn with hn|hn;exact .inl hn;exact .inr (.inr (by omega))) (by omega) (by omega));clear hn;go_enter Tryz.func221,Tryz.ntmps221
 go_wp2_with (go_at_call 237;refine N.out.mono ?_;rintro e w1 ⟨rfl,k1,k2⟩)
 go_ret
 exact⟨rfl,k1,k2⟩
theorem zyo{w:World}{g x:Nat}{b:List Nat}(h:Cur w g (x::b) false):
 Calls Tryz.prog 122 #[.pointer (some ⟨g,0,none⟩)] w (zdd (.returned (.int .u8 (x:Int))) g b false w):=by
 have:=z31 h (by simp);simpa[num] using this
end Go.Proofs.Y
namespace Go.Hm
def wid(l:List Nat):Nat:=l.foldl (fun a x=>max a (Lib.bitLen x)) 0
theorem zi1(n:Nat):∀k,k<=64->n<18446744073709551616->(Lib.bitLen n<=k↔n<2^k):=by
 intro k hk hn;refine⟨fun h=>?_,fun h=>Lib.bitLen_le n k hk h⟩;induction k generalizing n with
 |zero=>
  by_cases h0:n=0
  ·omega
  ·have:=Lib.bitLen_half n h0 hn
   omega
 |succ k ih=>
  by_cases h0:n=0
  ·subst h0;exact Nat.two_pow_pos _
  ·have h1:=Lib.bitLen_half n h0 hn
   have h2:=ih (n/2) (by omega) (by omega) (by omega);rw[Nat.pow_succ];omega
theorem zsc(n:Nat)(hn:n<18446744073709551616):Lib.bitLen n<=64:=Lib.bitLen_le n 64 (by omega) hn
theorem z33(a b:Nat)(ha:a<18446744073709551616)(hb:b<18446744073709551616):Lib.bitLen (a ||| b)=max (Lib.bitLen a) (Lib.bitLen b):=by
 have hab:a ||| b<18446744073709551616:=Nat.or_lt_two_pow (n:=64) ha hb;have ha64:=zsc a ha;have hb64:=zsc b hb;have hab64:=zsc _ hab;have key:∀k,k<=64->(Lib.bitLen (a ||| b)<=k↔max (Lib.bitLen a) (Lib.bitLen b)<=k):=by intro k hk;rw[zi1 _ k hk hab,Nat.max_le,zi1 a k hk ha,zi1 b k hk hb];exact⟨fun h=>⟨Nat.lt_of_le_of_lt Nat.left_le_or h,Nat.lt_of_le_of_lt Nat.right_le_or h⟩,fun h=>Nat.or_lt_two_pow h.1 h.2⟩
 have h1:=(key _ hab64).1 (Nat.le_refl _);have h2:=(key (max (Lib.bitLen a) (Lib.bitLen b)) (by omega)).2 (Nat.le_refl _);omega
theorem z9y(l:List Nat)(x:Nat):wid (l++[x])=max (wid l) (Lib.bitLen x):=by simp[wid]
def ors(l:List Nat):Nat:=l.foldl (· ||| ·) 0
theorem zyp(l:List Nat)(x:Nat):ors (l++[x])=ors l ||| x:=by simp[ors]
theorem z9z(k:Nat)(l:List Nat)(hk:k<=l.length)(hl:∀x∈l,x<=18446744073709551615):ors (l.take k)<18446744073709551616/\Lib.bitLen (ors (l.take k))=wid (l.take k):=by
 induction k with
 |zero=>simp[ors,wid];decide
 |succ k ih=>
  obtain⟨h1,h2⟩:=ih (by omega);have hx:l.getD k 0<=18446744073709551615:=by rw[List.getD_eq_getElem?_getD,List.getElem?_eq_getElem (by omega)];exact hl _ (List.getElem_mem (by omega))
  rw[zae l k 0 (by omega),zyp,z9y];exact⟨Nat.or_lt_two_pow (n:=64) h1 (by omega),by rw[z33 _ _ h1 (by omega),h2]⟩
theorem zgq(l:List Nat)(k:Nat)(hk:k<=64)(hl:∀x∈l,x<=18446744073709551615):wid l<=k↔ ∀x∈l,x<2^k:=by
 have:∀(l:List Nat) a,(∀x∈l,x<=18446744073709551615)->(l.foldl (fun a x=>max a (Lib.bitLen x)) a<=k↔a<=k/\ ∀x∈l,x<2^k):=by
  intro l;induction l with
  |nil=>intro a _;simp
  |cons y l ih=>
   intro a h;rw[List.foldl_cons,ih _ (fun x hx=>h x (by simp[hx])),Nat.max_le,zi1 y k hk (by have:=h y (by simp);omega)];simp[and_assoc]
 rw[wid,this l 0 hl];simp
theorem zjo(l:List Nat)(hl:∀x∈l,x<=18446744073709551615):wid l<=64:=(zgq l 64 (by omega) hl).2 fun x hx=>by have:=hl x hx;omega
end Go.Hm
namespace Go.Proofs.Y
open Go.RowKit Go.Hm
def zwo(v:Int)(w:World)(e:Ending)(w':World):Prop:=e= .returned (.int .i64 v)/\w=w'
theorem zki{w:World}{A:Option Addr}{n c:Nat}{L:List Nat}(h:Reads w w.heap.size 1 A n (za3 .u64 L))(hL:∀x∈L,x<=18446744073709551615)(hn:n<=9223372036854775807):
 Calls Tryz.prog 196 #[.slice A n c] w (zwo (wid L) w):=by
 obtain rfl:=h.len;go_enter Tryz.func196,Tryz.ntmps196
 go_wp2
 go_loop [3,8] (fun v i=>∃k:Nat,k<=L.length/\i= .int .i64 (k:Int)/\v= .int .u64 (ors (L.take k):Int)) (fun _ i=>L.length-(intOf i).toNat)
 case atStart=>exact⟨0,by omega,rfl,by simp[ors]⟩
 case round=>
  obtain⟨k,hk,rfl,rfl⟩:=hrel;have HO:=z9z k L hk hL;by_cases hlt:k<L.length
  ·obtain⟨ad,rfl,hb,hcell⟩:=h.num hlt
   have HT:=Hz (zae L k 0 hlt);have hl0:L.getD k 0<=18446744073709551615:=by rw[List.getD_eq_getElem?_getD,List.getElem?_eq_getElem hlt];exact hL _ (List.getElem_mem hlt)
   generalize L.getD k 0=y at*;obtain⟨h1,_⟩:=HO;generalize hO:ors (L.take k)=o at*;have HO:=Hz hO;clear hO;have hor:=u64_or_nat o y h1 (by omega);have Hor:=Hz hor;clear hor;go_wp2
   go_round
   case rel=>exact⟨k+1,by omega,by go_num,by rw[HT.out,zyp,HO.out,Hor.out]⟩
   case measure=>simp[intOf];omega
  ·obtain rfl:k=L.length:=by omega
   rw[List.take_length] at*;have LB:=Hz (bits_Len64 (ors L:Int) w (by omega) (by omega));have HO2:=Hz HO.2;clear HO;go_wp2_with (go_at_call 151;refine LB.out.mono ?_;rintro e w' ⟨rfl,rfl⟩)
   go_ret
   exact⟨by rw[<-HO2.out];rfl,rfl⟩
def nby(w n:Int):Int:=if w<0\/64<w\/n<0\/65536<n then-1 else(w*n+7)/8
theorem zn1(x n:Nat)(hx:x<=64)(hn:n<=65536):nby (x:Int) (n:Int)=(((x*n+7)/8:Nat):Int):=by unfold nby;rw[if_neg (by omega),<-Int.natCast_mul];omega
theorem zid(x n:Int)(w:World)(hx0: -9223372036854775808<=x)(hx:x<=9223372036854775807)(hn0: -9223372036854775808<=n)(hn:n<=9223372036854775807):Calls Tryz.prog 180 #[.int .i64 x,.int .i64 n] w (zwo (nby x n) w):=by
 by_cases hg:0<=x/\x<=64/\0<=n/\n<=65536
 ·obtain⟨h1,h2,h3,h4⟩:=hg
  have p0:0<=x*n:=Int.mul_nonneg h1 h3;have p1:x*n<=64*65536:=Int.mul_le_mul h2 h4 h3 (by omega);have e:nby x n=(x*n+7)/8:=by unfold nby;rw[if_neg (by omega)]
  rw[e];have w1:wrap64 (x*n)=x*n:=by unfold wrap64;omega
  have w2:wrap64 (x*n+7)=x*n+7:=by unfold wrap64;omega
  have w3:(x*n+7).tdiv 8=(x*n+7)/8:=Int.tdiv_eq_ediv_of_nonneg (by omega);have w4:wrap64 ((x*n+7)/8)=(x*n+7)/8:=by unfold wrap64;omega
  clear e;go_enter Tryz.func180,Tryz.ntmps180
  go_wp2
  all_goals first|(exfalso;omega)|go_ret
  exact⟨rfl,rfl⟩
 ·have e:nby x n= -1:=by unfold nby;rw[if_pos (by omega)]
  rw[e];clear e;go_enter Tryz.func180,Tryz.ntmps180
  go_wp2
  all_goals first|(exfalso;omega)|go_ret
  all_goals exact⟨rfl,rfl⟩
theorem zqo(x n:Nat)(w:World)(hx:x<=64)(hn:n<=65536):Calls Tryz.prog 180 #[.int .i64 (x:Int),.int .i64 (n:Int)] w (zwo ((x*n+7)/8:Nat) w):=by have:=zid x n w (by omega) (by omega) (by omega) (by omega);rwa[zn1 x n hx hn] at this
open Go.RowKit Go.Hm
def zn3(L:List Nat)(x:Int):Option (List Nat):=
 if 0<=x/\x<=64/\L.length<=65536/\(wid L:Int)<=x then some (low (pk x.toNat L) ((x.toNat*L.length+7)/8)) else none
def zbf(b:List Nat)(x n:Int):Option (List Nat):=
 if 0<=x/\x<=64/\0<=n/\n<=65536/\b.length=(x.toNat*n.toNat+7)/8/\num b<2^(x.toNat*n.toNat) then some (zp7 x.toNat n.toNat (num b)) else none
set_option maxRecDepth 100000 in
theorem z4c{w:World}{A:Option Addr}{n c:Nat}{L:List Nat}(x:Nat)(h:Reads w w.heap.size 1 A n (za3 .u64 L))(hL:∀x∈L,x<=18446744073709551615)(hn:n<=65536)(hx:x<=64)(hw:wid L<=x):
 Calls Tryz.prog 163 #[.slice A n c,.int .i64 (x:Int)] w (OptB (some (low (pk x L) ((x*n+7)/8))) w):=by
 obtain rfl:=h.len;obtain⟨s,hs⟩:∃s,s=(x*L.length+7)/8:=⟨_,rfl⟩;have hp:x*L.length<=64*65536:=Nat.mul_le_mul hx hn;have hs1:s<=524288:=by omega
 have hs2:x*L.length<=8*s:=by omega
 have B1:=Hz (zqo x L.length w hx hn);rw[<-hs] at B1⊢;have W1:=Hz (zki (c:=c) h hL (by omega));have HS:=Hz hs2;clear hs hs2 hp;go_enter Tryz.func163,Tryz.ntmps163
 go_wp2_with (first
  |(go_at_call 180;refine B1.out.mono ?_;rintro e w1 ⟨rfl,rfl⟩)
  |(go_at_call 196;refine W1.out.mono ?_;rintro e w1 ⟨rfl,rfl⟩)
  |(refine zb7 elB rfl (.tmp 24) (.tmp 24) rfl (W:=w) (B:=w.heap.size) s s rfl rfl rfl rfl (by omega) (Below.refl _ _) (Nat.le_refl _) rfl (by omega) (by simp only[maxLen];omega) ?_
    intro w1 hown1 hg1 hb1 hs1))
 go_loopw [8,28] (fun a i wr=>∃k m:Nat,k<=L.length/\m=x*k/\i= .int .i64 (k:Int)/\a= .int .i64 (m:Int)/\Own wr w.heap.size 5 (.slice (some ⟨w.heap.size,0,none⟩) s s) (za3 .u8 (low (pk x (L.take k)) s))/\Below w.heap.size w wr) (fun _ i _=>L.length-(intOf i).toNat)
 case atStart=>exact⟨0,0,by omega,rfl,rfl,rfl,by simpa[pk,z90,zbx] using hown1,hb1⟩
 case round=>
  obtain⟨k,m,hk,hm,rfl,rfl,hown,hb⟩:=hrel;by_cases hlt:k<L.length
  ·obtain⟨ad,rfl,hbl,hcell⟩:=(h.below hb).num hlt
   have hy:L.getD k 0<2^x:=(zgq L x hx hL).1 hw _ (by rw[List.getD_eq_getElem?_getD,List.getElem?_eq_getElem hlt];exact List.getElem_mem hlt);have hl0:L.getD k 0<=18446744073709551615:=by rw[List.getD_eq_getElem?_getD,List.getElem?_eq_getElem hlt];exact hL _ (List.getElem_mem hlt)
   have HT:=Hz (zae L k 0 hlt);have hX:=qgv x (L.take k) (fun z hz=>(zgq L x hx hL).1 hw z (List.mem_of_mem_take hz));rw[List.length_take,Nat.min_eq_left (by omega),<-hm] at hX;have hmx:m+x<=8*s:=by have h1:x*(k+1)<=x*L.length:=Nat.mul_le_mul_left _ hlt;rw[Nat.mul_succ] at h1;have:=HS.out;omega
   generalize L.getD k 0=y at*;generalize hpk:pk x (L.take k)=X at*;have HP:=Hz hpk;clear hpk;have Hm:=Hz hm;have HX:=Hz hX;have HY:=Hz hy;clear hm hX hy;go_wp2
   obtain⟨wo,rfl⟩:∃wo:World,wo=wr:=⟨_,rfl⟩;go_loopw [8,33] (fun a i wr=>∃j m':Nat,j<=x/\m'=m+j/\i= .int .i64 (j:Int)/\a= .int .i64 (m':Int)/\Own wr w.heap.size 5 (.slice (some ⟨w.heap.size,0,none⟩) s s) (za3 .u8 (low (X+y%2^j*2^m) s))/\Below w.heap.size w wr) (fun _ i _=>x-(intOf i).toNat)
   case atStart=>exact⟨0,m,by omega,rfl,rfl,rfl,by simpa[Nat.mod_one] using hown,hb⟩
   case round=>
    obtain⟨j,m',hj,hm',rfl,rfl,hown,hb⟩:=hrel;by_cases hlj:j<x
    ·have hm8:m'<8*s:=by omega
     obtain⟨q,r,hqr,q1,q2,q3,d1,d2⟩:=zsb m' (by omega);obtain⟨hg0,hgl,hc,hf,hset⟩:=hown.num0 (i:=q) (by omega);have Hm':=Hz hm';have Hset:=Hz hset;clear hm' hset;generalize hbb:(low (X+y%2^j*2^m) s).getD q 0=bb at*;have Hbb:=Hz hbb;clear hbb;obtain⟨t,ht,t1,t2,t3⟩:=qii y j hl0;have hq4:(q:Int)<(s:Int):=by omega
     have hq5:(0:Int)<=(q:Int):=by omega
     have P:=z38 s y j m' q r t HX.out Hm'.out hm8 hqr.out ht.out;rw[Hbb.out] at P;obtain⟨z,hz⟩:∃z,z=bb+t*2^r:=⟨_,rfl⟩;have O:=qem bb r t P.1 t1 q2;rw[<-hz] at O P;have HP:=Hz P.2;clear P hz;go_wp2
     go_still_tail 15,(by kernel_rfl)
     go_wp2
     go_roundw
     case rel=>exact⟨j+1,m'+1,by omega,by have:=Hm'.out;omega,by go_num,by go_num,by rw[<-HP.out];exact Hset.out z,by first|exact(hb.drew).setCell hg0 _|exact hb.setCell hg0 _⟩
     case measure=>simp[intOf];omega
    ·obtain rfl:j=x:=by omega
     go_wp2
     go_roundw
     case rel=>exact⟨k+1,m',by omega,by rw[hm',Hm.out,Nat.mul_succ],by go_num,rfl,by rw[HT.out,z34,List.length_take,Nat.min_eq_left (by omega),<-Hm.out,HP.out];rw[Nat.mod_eq_of_lt HY.out,Nat.mul_comm] at hown;exact hown,hb⟩
     case measure=>simp[intOf];omega
  ·obtain rfl:k=L.length:=by omega
   rw[List.take_length] at hown;go_wp2
   go_ret2
   exact⟨_,_,_,rfl,hown,hb⟩
set_option maxRecDepth 100000 in
theorem z93{w:World}{A:Option Addr}{n c:Nat}{L:List Nat}(x:Int)(h:Reads w w.heap.size 1 A n (za3 .u64 L))(hL:∀x∈L,x<=18446744073709551615)(hn:n<=9223372036854775807)(hx0: -9223372036854775808<=x)(hx:x<=9223372036854775807)
 (hb: ¬(0<=x/\x<=64/\L.length<=65536/\(wid L:Int)<=x)):
 Calls Tryz.prog 163 #[.slice A n c,.int .i64 x] w (OptB none w):=by
 obtain rfl:=h.len;have B1:=Hz (zid x L.length w hx0 hx (by omega) (by omega));have W1:=Hz (zki (c:=c) h hL (by omega));by_cases hs:0<=x/\x<=64/\L.length<=65536
 ·have hy:x<(wid L:Int):=by omega
  have h0:0<=nby x L.length:=by unfold nby;rw[if_neg (by omega)];have:0<=x*(L.length:Int):=Int.mul_nonneg (by omega) (by omega);omega
  clear hb hs;generalize nby x L.length=B at*;generalize wid L=W at*;go_enter Tryz.func163,Tryz.ntmps163
  go_wp2_with (first
   |(go_at_call 180;refine B1.out.mono ?_;rintro e w1 ⟨rfl,rfl⟩)
   |(go_at_call 196;refine W1.out.mono ?_;rintro e w1 ⟨rfl,rfl⟩))
  go_ret2
  exact⟨rfl,Below.refl _ _⟩
 ·have h0:nby x L.length= -1:=by unfold nby;rw[if_pos (by omega)]
  rw[h0] at B1;clear hb hs h0;go_enter Tryz.func163,Tryz.ntmps163
  go_wp2_with (first
   |(go_at_call 180;refine B1.out.mono ?_;rintro e w1 ⟨rfl,rfl⟩))
  go_ret2
  exact⟨rfl,Below.refl _ _⟩
theorem zm9{w:World}{A:Option Addr}{n c:Nat}{L:List Nat}(x:Int)(h:Reads w w.heap.size 1 A n (za3 .u64 L))(hL:∀x∈L,x<=18446744073709551615)(hn:n<=9223372036854775807)(hx0: -9223372036854775808<=x)(hx:x<=9223372036854775807):
 Calls Tryz.prog 163 #[.slice A n c,.int .i64 x] w (OptB (zn3 L x) w):=by
 have hl:=h.len;unfold zn3;split
 ·rename_i hg
  obtain⟨y,rfl⟩:=Int.eq_ofNat_of_zero_le hg.1;have:=z4c (c:=c) y h hL (by omega) (by omega) (by omega);rw[hl] at this⊢;exact this
 ·rename_i hg
  exact z93 x h hL hn hx0 hx hg
end Go.Proofs.Y
namespace Go.Hm
theorem z03(n:Nat)(h0:n≠0)(h:n<18446744073709551616):Lib.bitLen (n ||| 1)=Lib.bitLen n:=by
 have e:(n ||| 1)/2=n/2:=by rw[Nat.or_div_two];simp
 have hlt:n ||| 1<2^64:=Nat.or_lt_two_pow h (by omega);have hne:n ||| 1≠0:=by intro e0;rw[e0] at e;have:=Nat.right_le_or (n:=n) (m:=1);omega
 rw[Lib.bitLen_half _ hne hlt,Lib.bitLen_half n h0 h,e]
theorem qe2:∀(k n:Nat),n<2^k->n≠0->n<18446744073709551616->(Lib.bitLen n+6)/7=(vp n).length:=by
 intro k;induction k using Nat.strongRecOn with
 |ind k ih=>
  intro n hk h0 h;by_cases hn:n<128
  ·have h1:=Lib.bitLen_le n 7 (by omega) hn
   have h2:=Lib.bitLen_half n h0 h;rw[zez hn];simp only[List.length_singleton];omega
  ·have e:Lib.bitLen n=7+Lib.bitLen (n/128):=Lib.bitLen_shift 7 n (by omega) h
   have hk7:7<k:=by
    refine Nat.lt_of_not_le fun hle=>?_
    have:=Nat.pow_le_pow_right (n:=2) (by omega) hle;omega
   have hd:n/128<2^(k-7):=by refine Nat.div_lt_of_lt_mul ?_;rw[show(128:Nat)=2^7 from rfl,<-Nat.pow_add,show 7+(k-7)=k by omega];exact hk
   have:=ih (k-7) (by omega) (n/128) hd (by omega) (by omega);rw[zfr hn,List.length_cons,<-this,e];omega
theorem qe3(n:Nat)(h:n<18446744073709551616):(Lib.bitLen (n ||| 1)+6)/7=(vp n).length:=by
 by_cases h0:n=0
 ·subst h0;rw[zez (by omega)];decide
 ·rw[z03 n h0 h,qe2 64 n h h0 h]
theorem z96(a:Nat)(h:a<18446744073709551616):bits .xor .u64 (a:Int) 0=a:=by have:=u64_xor_nat a 0 h (by omega);simpa using this
theorem z97(a:Nat)(h:a<18446744073709551616):bits .xor .u64 (a:Int) 18446744073709551615=((18446744073709551615-a:Nat):Int):=by show IntKind.u64.wrap ((BitVec.ofInt 64 (a:Int) ^^^ BitVec.ofInt 64 18446744073709551615).toNat:Int)=_;rw[show BitVec.ofInt 64 18446744073709551615=BitVec.allOnes 64 from by decide,BitVec.xor_allOnes,BitVec.toNat_not,ofInt_u64 a h,IntKind.wrap_u64];omega
theorem z98(a:Nat)(h:a<9223372036854775808):bits .xor .i64 (a:Int) 0=a:=by show IntKind.i64.wrap ((BitVec.ofInt 64 (a:Int) ^^^ BitVec.ofInt 64 0).toNat:Int)=_;rw[show BitVec.ofInt 64 0=0#64 from by decide,BitVec.xor_zero,ofInt_u64 a (by omega),IntKind.wrap_i64];omega
theorem z99(a:Nat)(h:a<9223372036854775808):bits .xor .i64 (a:Int) (-1)= -(a:Int)-1:=by show IntKind.i64.wrap ((BitVec.ofInt 64 (a:Int) ^^^ BitVec.ofInt 64 (-1)).toNat:Int)=_;rw[show BitVec.ofInt 64 (-1)=BitVec.allOnes 64 from by decide,BitVec.xor_allOnes,BitVec.toNat_not,ofInt_u64 a (by omega),IntKind.wrap_i64];omega
def zig(x:Int):Nat:=if x<0 then(-(2*x)-1).toNat else(2*x).toNat
def zag(n:Nat):Int:=if n%2=0 then((n/2:Nat):Int) else-((n/2:Nat):Int)-1
theorem zn5(x:Int):zag (zig x)=x:=by unfold zig zag;split<;> split<;> omega
theorem zws(n:Nat):zig (zag n)=n:=by unfold zig zag;split<;> split<;> omega
end Go.Hm
namespace Go.Proofs.Y
open Go.RowKit Go.Hm
def qg0(n:Nat)(w:World)(e:Ending)(w':World):Prop:=e= .returned (.int .i64 ((vp n).length:Int))/\w=w'
theorem zys(n:Nat)(w:World)(h:n<18446744073709551616):Calls Tryz.prog 118 #[.int .u64 n] w (qg0 n w):=by
 have e:bits .or .u64 (n:Int) 1=((n ||| 1:Nat):Int):=by have:=u64_or_nat n 1 h (by omega);simpa using this
 have hlt:n ||| 1<2^64:=Nat.or_lt_two_pow h (by omega);have hv:=qe3 n h;have h10:=zaj h;have hb:=Lib.bitLen_le (n ||| 1) 64 (by omega) hlt;go_enter Tryz.func118,Tryz.ntmps118
 go_wp2_with (first
  |(go_at_call 151;refine(bits_Len64 ((n ||| 1:Nat):Int) _ (by omega) (by omega)).mono ?_;rintro e w' ⟨rfl,rfl⟩))
 go_ret
 exact⟨by rw[<-hv];go_num,rfl⟩
def qg1(w:World)(l:List Nat)(N:Nat)(nv v:Value)(wr:World):Prop:=∃N' D A c,nv= .int .u64 ((N':Nat):Int)/\N'<=N/\D.length+(vp N').length<=l.length+10/\v= .slice A D.length c/\D++vp N'=l++vp N/\Own wr w.heap.size 5 (.slice A D.length c) (za3 .u8 D)/\Below w.heap.size w wr
set_option maxRecDepth 100000 in
theorem zcx(A:Option Addr)(n c:Nat)(l:List Nat)(N:Nat)(w:World)(hr:Reads w w.heap.size 1 A n (za3 .u8 l))(hn:n<=140737488355200)(hN:N<=18446744073709551615):
 Calls Tryz.prog 93 #[.slice A n c,.int .u64 N] w (zc6 (l++vp N) w):=by
 obtain rfl:l.length=n:=by have:=hr.1;rw[zaa] at this;omega
 have hsz:=zaj (n:=N) (by omega);go_enter Tryz.func93,Tryz.ntmps93
 go_wp2_with (first
  |(go_at_call 118;refine(zys N _ (by omega)).mono ?_;rintro e w' ⟨rfl,rfl⟩)
  |(refine zb7 elB rfl (.tmp 7) (.tmp 12) rfl (W:=w) (B:=w.heap.size) l.length (l.length+(vp N).length) rfl rfl rfl (by simp) (by omega) (Below.refl _ _) (Nat.le_refl _) rfl (by omega) (by simp only[maxLen];omega) ?_
    intro w1 hown1 hg1 hb1 hs1)
  |(refine znz elB rfl (.tmp 14) (.tmp 15) rfl (W:=w) (B:=w.heap.size) hown1 (hr.grown_far hg1 (by simp)) rfl rfl l.length (Nat.min_self _) hb1 (Nat.le_refl _) (zcp _ _) ?_
    intro w2 hown2 hg2 hb2 hs2))
 go_frame
 go_loopw [1,5] (qg1 w l N) (fun nv _ _=>(intOf nv).toNat)
 case atStart=>
  refine⟨N,l,_,_,rfl,Nat.le_refl _,by omega,rfl,rfl,?_,hb2⟩;rw[List.take_of_length_le (by rw[zaa];omega),List.drop_of_length_le (by simp),List.append_nil] at hown2;exact hown2
 case round=>
  obtain⟨N',D,A',c',rfl,hN',hD,rfl,hDN,hown,hb⟩:=hrel;have hb0:=hb.size;by_cases hlt:N'<128
  ·go_wp2_with (first
    |(refine zdp elB rfl (.tmp 27) (.tmp 30) rfl (W:=w) (B:=w.heap.size) hown rfl rfl N' rfl hb (Nat.le_refl _) (by omega) (by omega) (by simp only[maxLen];omega) ?_
      intro A3 c3 w3 _ _ hown3 hg3 hb3 _ _))
   go_ret
   rw[zez hlt] at hDN;rw[hDN] at hown3;have hl':D.length+1=(l++vp N).length:=by rw[<-hDN];simp
   rw[hl'] at hown3⊢;exact⟨_,_,_,rfl,hown3,hb3⟩
  ·have hu:=qih N'
   have Hu:=Hz hu;clear hu;have hv:=zfr hlt;have Hv:=Hz hv;clear hv;go_wp2_with (first
    |(refine zdp elB rfl (.tmp 19) (.tmp 23) rfl (W:=w) (B:=w.heap.size) hown rfl rfl (N'%128+128) (by rw[Hu.out]) hb (Nat.le_refl _) (by omega) (by omega) (by simp only[maxLen];omega) ?_
      intro A3 c3 w3 _ _ hown3 hg3 hb3 _ _))
   go_roundw
   case rel=>
    have hv':=Hv.out;rw[hv',List.length_cons] at hD;exact⟨N'/128,D++[N'%128+128],A3,c3,by go_num,by omega,by simp;omega,by simp,by rw[<-hDN,hv'];simp,by simpa using hown3,hb3⟩
   case measure=>simp[intOf];omega
def z4e(v:Value)(w:World)(e:Ending)(w':World):Prop:=e= .returned v/\w=w'
theorem zn6(x:Int)(w:World)(h: -9223372036854775808<=x)(h1:x<=9223372036854775807):Calls Tryz.prog 179 #[.int .i64 x] w (z4e (.int .u64 (zig x:Int)) w):=by
 have e:bits .xor .u64 (IntKind.u64.wrap (IntKind.u64.wrap x*2)) (IntKind.u64.wrap (x/9223372036854775808))=(zig x:Int):=by
  simp only[IntKind.wrap_u64];by_cases hx:x<0
  ·rw[show(x/9223372036854775808)%18446744073709551616=18446744073709551615 from by omega,
    show x%18446744073709551616*2%18446744073709551616=((18446744073709551616+2*x).toNat:Int) from by omega,z97 _ (by omega)]
   simp only[zig,if_pos hx];omega
  ·rw[show(x/9223372036854775808)%18446744073709551616=0 from by omega,
    show x%18446744073709551616*2%18446744073709551616=((2*x).toNat:Int) from by omega,z96 _ (by omega)]
   simp only[zig,if_neg hx]
 go_enter Tryz.func179,Tryz.ntmps179
 go_wp2
 go_ret
 exact⟨rfl,rfl⟩
theorem zn7(x:Nat)(w:World)(h:x<18446744073709551616):Calls Tryz.prog 211 #[.int .u64 (x:Int)] w (z4e (.int .i64 (zag x)) w):=by
 have e1:bits .and .u64 (x:Int) 1=((x%2:Nat):Int):=by have:=u64_and_nat x 1 h (by omega);rw[nat_mask1] at this;simpa using this
 have e:bits .xor .i64 ((x:Int)/2) (-((x:Int)%2))=zag x:=by
  by_cases hx:x%2=0
  ·rw[show(-((x:Int)%2))=0 from by omega,show((x:Int)/2)=((x/2:Nat):Int) from by omega,z98 _ (by omega)]
   simp only[zag,if_pos hx]
  ·rw[show(-((x:Int)%2))= -1 from by omega,show((x:Int)/2)=((x/2:Nat):Int) from by omega,z99 _ (by omega)]
   simp only[zag,if_neg hx]
 go_enter Tryz.func211,Tryz.ntmps211
 go_wp2
 go_ret
 exact⟨rfl,rfl⟩
end Go.Proofs.Y
namespace Go.Hm
open Go Go.RowKit
def boolN(b:Bool):Nat:=if b then 1 else 0
def z2d(c:za2):List Nat:=vp c.1.length++c.1++[c.2.1.toNat,boolN c.2.2]
def zkd(l:List za2):List Nat:=l.flatMap z2d
theorem qbv:zkd []=[]:=rfl
theorem z6q(l:List za2)(c:za2):zkd (l++[c])=zkd l++(vp c.1.length++c.1++[c.2.1.toNat,boolN c.2.2]):=by simp[zkd,z2d]
theorem z6r(l:List za2)(c:za2):zkd (c::l)=(vp c.1.length++c.1++[c.2.1.toNat,boolN c.2.2])++zkd l:=by simp[zkd,z2d]
theorem zzx(l:List za2)(h:∀x∈l,x.1.length<=100):(zkd l).length<=112*l.length:=by
 induction l with
 |nil=>simp[zkd]
 |cons c l ih=>
  have h1:=ih fun x hx=>h x (by simp[hx])
  have h2:=h c (by simp);have h3:=zaj (n:=c.1.length) (by omega);rw[z6r];simp only[List.length_append,List.length_cons,List.length_nil] at*;omega
def putC(b:List Nat)(l:List za2):List Nat:=if zcu l=0 then b++vp l.length++zkd l else b
end Go.Hm
namespace Go.Proofs.Y
open Go.RowKit Go.Hm
theorem qbw(b:Bool)(w:World):Calls Tryz.prog 94 #[.bool b] w (zdw (.int .u8 ((boolN b:Nat):Int)) w):=by
 cases b;all_goals
  go_enter Tryz.func94,Tryz.ntmps94
  go_wp2
  go_ret
  exact⟨rfl,rfl⟩
set_option maxRecDepth 100000 in
theorem qbx{w:World}{A A2:Option Addr}{n c n2 c2:Nat}{b:List Nat}{L:List za2}(h:Reads w w.heap.size 1 A n (za3 .u8 b))(hn:n<=140737488300000)(h2:Reads w w.heap.size 3 A2 n2 (recs zh8 L))(hL:∀x∈L,(∀z∈x.1,z<256)/\x.1.length<=140737488351232)(hc:n2<=c2)(hn2:n2<=4611686018427387903):
 Calls Tryz.prog 56 #[.slice A n c,.slice A2 n2 c2] w (zc6 (putC b L) w):=by
 have P0:=Hz (znk (c:=c2) h2 hL hc hn2);obtain rfl:=h2.lenC;by_cases hk:zcu L=0
 ·rw[hk] at P0
  have HO:=Hz (show putC b L=b++vp L.length++zkd L by rw[putC,if_pos hk]);obtain⟨m1,m2,_⟩:=(zdt L).1 hk;generalize putC b L=O at*;have M2:=Hz m2;have HLL:=Hz hL;have vl:=zaj (n:=L.length) (by omega);have VL:=Hz vl;have hln:=h.len;have LN:=Hz hln;clear hk m2 hL hln;go_enter Tryz.func56,Tryz.ntmps56
  go_wp2_with fail
  refine P0.out.mono ?_;rintro e w1 ⟨rfl,b1⟩;have P1:=Hz (zcx A n c b L.length w1 (Reads.later h b1) (by omega) (by omega));go_wp2_with fail
  refine P1.out.mono ?_;rintro e w2 ⟨A3,n3,c3,rfl,k3,b2⟩;have b02:=New.trans b1 b2;have Z1:=b1.size;clear P0 P1 b1 vl;go_wp2
  go_loopw [5,20] (fun v i wr=>∃(k:Nat) (A:Option Addr) (m c5:Nat),i= .int .i64 (k:Int)/\k<=L.length/\v= .slice A m c5/\Own wr w.heap.size 5 (.slice A m c5) (za3 .u8 (b++vp L.length++zkd (L.take k)))/\New w wr) (fun _ i _=>L.length-(intOf i).toNat)
  case atStart=>exact⟨0,_,_,_,rfl,by omega,rfl,by rw[List.take_zero,qbv,List.append_nil];exact k3.base_le Z1,b02⟩
  case round=>
   obtain⟨k,A5,m5,c5,rfl,hk,rfl,o5,b5⟩:=hrel;have z5:=b5.size;by_cases hlt:k<L.length
   ·obtain⟨ad,rfl,hbk,d0,d1,d2⟩:=(Reads.later h2 b5).colT hlt
    have hx:(L.getD k ([],0,false))∈L:=by rw[List.getD_eq_getElem?_getD,List.getElem?_eq_getElem hlt];exact List.getElem_mem hlt
    obtain⟨x1,x2,x3,x4⟩:=M2.out _ hx;have y1:=(HLL.out _ hx).1;have T:=zae L k ([],0,false) hlt;have q5:m5<=n+7200:=by have l:=o5.len;have l2:=zzx (L.take k) (fun x hx=>(M2.out x (List.mem_of_mem_take hx)).2.1);rw[zaa,List.length_append,List.length_append] at l;rw[List.length_take] at l2;have:=VL.out;have:=LN.out;omega
    have HT:=Hz (show b++vp L.length++zkd (L.take (k+1))=b++vp L.length++zkd (L.take k)++vp (L.getD k ([],0,false)).1.length++(L.getD k ([],0,false)).1++[(L.getD k ([],0,false)).2.1.toNat,boolN (L.getD k ([],0,false)).2.2] by rw[T,z6q];simp);clear T hx;generalize(L.getD k ([],0,false)).1=s2 at*;generalize(L.getD k ([],0,false)).2.1=t2 at*;generalize(L.getD k ([],0,false)).2.2=n2 at*;obtain⟨t2,rfl⟩:=Int.eq_ofNat_of_zero_le x3;rw[Int.toNat_natCast] at HT;have zs:=zbh s2;have vs:=zaj (n:=s2.length) (by omega);have VS:=Hz vs;have Y1:=Hz y1;have hiz:(k:Int)<(L.length:Int):=by omega
    obtain⟨W1,hW1⟩:∃W,W=wr.alloc (.cells #[.string (zad s2),.int .i64 (t2:Int),.bool n2] 70):=⟨_,rfl⟩;have b51:New w W1:=by rw[hW1];exact Below.alloc b5 b5.size _
    have Y:Blk W1 wr.heap.size 70 #[.string (zad s2),.int .i64 (t2:Int),.bool n2]:=by rw[hW1];exact Blk.new _ _ _
    have o51:Own W1 w.heap.size 5 (.slice A5 m5 c5) (za3 .u8 (b++vp L.length++zkd (L.take k))):=by rw[hW1];exact o5.alloc _
    have hg7:wr.heap.size<W1.heap.size:=Y.lt;obtain⟨p0,p1,p2⟩:=zaf Y;have P6:=Hz (zcx none 0 0 [] s2.length W1 Reads.none_ (by omega) (by omega));rw[hW1] at p0 p1 p2;rw[hW1] at P6;clear y1 o5;have HY:=Hz Y;have HW1:=Hz hW1;clear Y vs hW1;go_wp2_with fail
    refine P6.out.mono ?_;rintro e w7 ⟨A7,n7,c7,rfl,k7,b7⟩;rw[<-HW1.out] at b7 k7;rw[List.nil_append] at k7;have b07:=New.trans b51 b7;have o7:=o51.later b7;have Y7:=HY.out.below b7 HY.out.lt;have q7:n7<=10:=by have:=k7.len;rw[zaa] at this;have:=VS.out;omega
    have r7:=k7.reads;have z7:=b07.size;clear b7 k7 P6 p0 p1 p2 o51;go_wp2_with (first
     |(refine zas elB rfl (.tmp 24) (.tmp 29) rfl (W:=w) (B:=w.heap.size) o7 r7 rfl rfl b07 (Nat.le_refl _) z7 (by omega) (by simp only[maxLen];omega) ?_
       intro A8 c8 w8 _ _ o8 g8 b08 _;have Y8:=Y7.push o7 g8 (by decide);obtain⟨p0,p1,p2⟩:=zaf Y8;have HY8:=Hz Y8;have z8:=b08.size;clear Y8)
     |(refine zev elB qdp rfl (.tmp 31) (.tmp 33) rfl (W:=w) (B:=w.heap.size) o8 Y1.out rfl rfl b08 (Nat.le_refl _) z8 (by omega) ?_
       intro A9 c9 w9 _ _ o9 g9 b09;have HY9:=Hz (HY8.out.push o8 g9 (by decide));have z9:=b09.size;clear p0 p1 p2))
    have HC:=Hz (fun(W:World) (hW:w9.grownBy W (Value.ownBlock (.slice A9 (m5+n7+s2.length) c9)))=>zaf (HY9.out.grown hW (fun e=>o9.blk_ne HY9.out (by decide) e.symm)));refine zat (fun x y=>x.grownBy y (Value.ownBlock (.slice A9 (m5+n7+s2.length) c9))) [(true,0),(true,1),(true,2),(true,3),(true,4),(true,5),(false,6),(false,7),(false,8),(true,9)]
     (fun x=>World.grownBy.refl x _) World.grownBy.trans (by kernel_rfl) (by kernel_rfl) (by kernel_rfl) (by kernel_rfl) ?_
    have e8:IntKind.u8.wrap (t2:Int)=(t2:Int):=by rw[IntKind.wrap_u8];omega
    have MK:=Hz (fun W=>qbw n2 W);generalize hmk:boolN n2=mk at*;have o10:Own (w9.alloc (.cells #[.int .u8 (t2:Int),.int .u8 (mk:Int)] 5)).drew w.heap.size 5 (.slice A9 (m5+n7+s2.length) c9) (za3 .u8 (b++vp L.length++zkd (L.take k)++vp s2.length++s2)):=o9.alloc _;have r10:Reads (w9.alloc (.cells #[.int .u8 (t2:Int),.int .u8 (mk:Int)] 5)).drew (w9.alloc (.cells #[.int .u8 (t2:Int),.int .u8 (mk:Int)] 5)).drew.heap.size 1 (some ⟨w9.heap.size,0,none⟩) 2 (za3 .u8 [t2,mk]):=Reads.litV w9 5 #[.int .u8 (t2:Int),.int .u8 (mk:Int)] 2 (za3 .u8 [t2,mk]) rfl rfl;repeat(first
     |(refine zbb rfl rfl (fun K hK=>?_);go_simp
       (with_reducible refine(MK.out _).mono ?_)
       rintro e w11 ⟨rfl,rfl⟩;refine hK _ _ (World.grownBy.refl _ _) ?_;clear hK)
     |(refine za1 rfl rfl (v:=?_) (fun W hW=>?_) ?_;rotate_left;(obtain⟨p0,p1,p2⟩:=HC.out W (World.grownBy.trans z08 hW);go_simp<;> with_reducible rfl);simp only[Act.put,List.setIfInBounds_toArray,List.set_cons_zero,List.set_cons_succ]))
    refine zbb rfl rfl (fun K hK=>?_);go_simp
    refine hK _ _ (World.grownBy_alloc w9.drew _ _) ?_;clear hK;refine zbb rfl rfl (fun K hK=>?_);have b10:Below w.heap.size w (w9.alloc (.cells #[.int .u8 (t2:Int),.int .u8 (mk:Int)] 5)).drew:=(b09.alloc z9 _).drew;refine zkv elB (.tmp 35) (.tmp 42) rfl (W:=w) (B:=w.heap.size) o10 r10 (by omega) rfl rfl b10 (Nat.le_refl _) b10.size (zcp _ _) (by rw[<-o10.len];omega) (by rw[<-o10.len];simp only[maxLen];omega) ?_;intro A11 c11 w11 _ _ o11 g11 b11;refine hK _ _ g11 ?_;clear hK;rw[<-zdo,<-o10.len] at o11;rw[<-o10.len];refine za1 rfl rfl (v:=?_) (fun W hW=>?_) ?_;rotate_left
    ·go_simp<;> with_reducible rfl
    simp only[Act.put,List.setIfInBounds_toArray,List.set_cons_zero,List.set_cons_succ];refine zc3 ?_;go_wp2
    go_roundw
    case rel=>exact⟨k+1,_,_,_,by go_num,by omega,rfl,by rw[HT.out];exact o11,b11⟩
    case measure=>simp[intOf];omega
   ·obtain rfl:k=L.length:=by omega
    rw[List.take_length] at o5;go_wp2
    go_ret
    exact⟨_,_,_,rfl,by rw[HO.out];exact o5,b5⟩
 ·have HO:=Hz (show putC b L=b by rw[putC,if_neg hk])
  generalize putC b L=O at*;generalize zcu L=ck at*;have e1:(ck != 0)=true:=by simpa using hk
  clear hk;go_enter Tryz.func56,Tryz.ntmps56
  go_wp2_with fail
  refine P0.out.mono ?_;rintro e w1 ⟨rfl,b1⟩;have P1:=Hz (zgu (c:=c) (Reads.later h b1) (by omega));clear P0;go_wp2_with fail
  refine P1.out.mono ?_;rintro e w2 ⟨A3,n3,c3,rfl,k3,b2⟩;have Z1:=b1.size;go_wp2
  go_ret
  exact⟨_,_,_,rfl,by rw[HO.out];exact k3.base_le Z1,New.trans b1 b2⟩
end Go.Proofs.Y
namespace Go.Hm
open Go Go.RowKit
variable{P:Program}
theorem zd5{o:Oper}{a:Act}{w:World}{K:Act->World->Prop}{Q:Exit->Act->World->Prop}(ty:TypeId)(x y:Operand)(ho:o.op= .store ty x y)
 (g:Nat)(cells:Array Value)(hx:a.eval x= .pointer (some ⟨g,0,none⟩))(hy:a.eval y= .agg cells){t:TypeId}{old:Array Value}(hB:Blk w g t old)(hi:(P.info? ty).map (·.size)=some cells.size)
 (hold:old.size=cells.size)(h1:cells.all (·.oneCell')=true)
 (h:∀W,Blk W g t cells->w.grownBy W (some g)->K (a.put o.dst undef) W):o.wp P a w K Q:=by
 refine wp_store_row ty x y ho g cells hx hy t old hB hi hold h1 ?_;refine h _ ?_ ⟨rfl,rfl,rfl,by simp[World.setRow],fun k _ hne=>?_⟩
 ·unfold Blk at hB⊢
  simp[World.setRow,Array.getElem?_modify,hB]
 ·simp[World.setRow,Array.getElem?_modify]
  intro e;exact absurd (by rw[e]) hne
end Go.Hm
namespace Go.Proofs.Y
open Go.RowKit Go.Hm
theorem elCol7:ElT Tryz.prog 22 70 (.agg #[.string ⟨#[]⟩,.int .i64 0,.bool false]) 3 32:=⟨by kernel_rfl,by kernel_rfl,rfl,by omega⟩
theorem zv7:ElT Tryz.prog 23 71 (.slice none 0 0) 1 24:=⟨by kernel_rfl,by kernel_rfl,rfl,by omega⟩
section
variable{w:World}{ca cb cc:Array Value}{ea eb ec:TypeId}
end
def RowsIn(w:World)(B:Nat)(D:List zdy):Prop:=∀d∈D,w.ownsRow B 61 5 (.slice d.1 d.2.2.length d.2.1) d.2.2.length (recs zam d.2.2)
theorem RowsIn.later{w w':World}{B:Nat}{D:List zdy}(h:RowsIn w B D)(hb:New w w'):RowsIn w' B D:=fun d hd=>zau (h d hd) hb
theorem RowsIn.base{w:World}{B B':Nat}{D:List zdy}(h:RowsIn w B D)(hb:B'<=B):RowsIn w B' D:=fun d hd=>zbd (h d hd) hb
theorem RowsIn.keepT{w w':World}{B g:Nat}{t:TypeId}{cs:Array Value}{D:List zdy}(h:RowsIn w B D)(hT:Blk w g t cs)(hne:61≠t)(hg:w.grownBy w' (some g)):RowsIn w' B D:=fun d hd=>World.ownsRow.kept (h d hd) hg (.inr (zal (h d hd) hT hne))
def TabPost(er:Int)(L:List za2)(r:Int)(C:List (List zab))(w:World)(e:Ending)(w':World):Prop:=
 ∃(Ac Ad:Option Addr) (cc cd:Nat) (D:List zdy),e= .returned (.tuple #[.agg #[.slice Ac L.length cc,.int .i64 r,.slice Ad D.length cd],.int .i64 er])/\
  w'.ownsRow w.heap.size 70 3 (.slice Ac L.length cc) L.length (recs zh8 L)/\w'.ownsRow w.heap.size 71 1 (.slice Ad D.length cd) D.length (recs zhu D)/\RowsIn w' w.heap.size D/\D.map (·.2.2)=C/\New w w'
def qht(er:Int)(L:List za2)(l:List Int):List za2:=if er=0 then l.map (fun c=>L.getD c.toNat ([],0,false)) else []
def qhu(er fr to_:Int):Int:=if er=0 then to_-fr else 0
def qi2(D:List zdy)(fr to_ c:Int):List zab:=((D.getD c.toNat (none,0,[])).2.2.drop fr.toNat).take (to_-fr).toNat
def qhv(er:Int)(D:List zdy)(l:List Int)(fr to_:Int):List (List zab):=if er=0 then l.map (qi2 D fr to_) else []
def ProjPost(er:Int)(L:List za2)(D:List zdy)(l:List Int)(fr to_:Int)(w:World)(e:Ending)(w':World):Prop:=
 (er≠0/\e= .returned (.tuple #[.agg #[.slice none 0 0,.int .i64 0,.slice none 0 0],.int .i64 er])/\New w w')\/(er=0/\TabPost 0 (l.map (fun c=>L.getD c.toNat ([],0,false))) (to_-fr) (l.map (qi2 D fr to_)) w e w')
theorem ProjPost.u{er:Int}{L:List za2}{D:List zdy}{l:List Int}{fr to_:Int}{w w':World}{e:Ending}(h:ProjPost er L D l fr to_ w e w'):TabPost er (qht er L l) (qhu er fr to_) (qhv er D l fr to_) w e w':=by
 rcases h with⟨h1,rfl,h2⟩|⟨rfl,h⟩
 ·rw[qht,qhu,qhv,if_neg h1,if_neg h1,if_neg h1]
  exact⟨none,none,0,0,[],rfl,zcn,zcn,fun _ hd=>absurd hd (by simp),rfl,h2⟩
 ·exact h
theorem zld{L:List za2}{r:Int}{D:List zdy}(h:tabCk L r D=0):D.length=L.length/\0<=r/\r<=65536/\L.length<=64/\ ∀d∈D,((d.2.2.length:Nat):Int)=r:=by
 unfold tabCk at h;split at h
 ·rename_i h1;exact absurd h h1
 ·rename_i h1
  split at h
  ·rename_i h2;exact absurd h h2
  ·rename_i h2
   obtain⟨a,b,c,d⟩:=zv1 (Classical.not_not.1 h2);refine⟨a,b,c,?_,d⟩;have h3:=Classical.not_not.1 h1;unfold zcu at h3;split at h3
   ·cases h3
   ·omega
open Go.RowKit Go.Hm
theorem RowsIn.touch{w w':World}{B base sz n:Nat}{e:TypeId}{v:Value}{xs:List Value}{D:List zdy}(h:RowsIn w B D)(h2:w.ownsRow base e sz v n xs)(hne:61≠e)(k:Turns (zm2 v) w w'):RowsIn w' B D:=fun d hd=>z7b (h d hd) k (z7c (h d hd) h2 hne)
end Go.Proofs.Y
