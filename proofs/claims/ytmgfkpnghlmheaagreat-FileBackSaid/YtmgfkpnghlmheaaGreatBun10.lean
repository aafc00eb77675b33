/- Texts merged and made short: Var, OrdD, StaM, StaA, Sch. -/
import Derived.Lib.BitFns
import Derived.Test.YtmgfkpnghlmheaaGreatBun1
import Derived.Test.YtmgfkpnghlmheaaGreatBun3
import Derived.Test.YtmgfkpnghlmheaaGreatBun5
import Derived.Test.YtmgfkpnghlmheaaGreatBun7
import Derived.Test.YtmgfkpnghlmheaaGreatBun8
import Derived.Test.YtmgfkpnghlmheaaGreatBun9
set_option maxHeartbeats 2000000
namespace Go.Hm
theorem z01(n:Nat)(h0:n≠0)(h:n<18446744073709551616):Lib.bitLen (n ||| 1)=Lib.bitLen n:=by
 have e:(n ||| 1)/2=n/2:=by rw[Nat.or_div_two];simp
 have hlt:n ||| 1<2^64:=Nat.or_lt_two_pow h (by omega)
 have hne:n ||| 1≠0:=by intro e0;rw[e0] at e;have:=Nat.right_le_or (n:=n) (m:=1);omega
 rw[Lib.bitLen_half _ hne hlt,Lib.bitLen_half n h0 h,e]
theorem qey:∀(k n:Nat),n<2^k→n≠0→n<18446744073709551616→(Lib.bitLen n+6)/7=(vp n).length:=by
 intro k
 induction k using Nat.strongRecOn with
 |ind k ih=>
  intro n hk h0 h;by_cases hn:n<128
  ·have h1:=Lib.bitLen_le n 7 (by omega) hn
   have h2:=Lib.bitLen_half n h0 h;rw[ze0 hn];simp only[List.length_singleton];omega
  ·have e:Lib.bitLen n=7+Lib.bitLen (n/128):=Lib.bitLen_shift 7 n (by omega) h
   have hk7:7<k:=by
    refine Nat.lt_of_not_le fun hle=>?_
    have:=Nat.pow_le_pow_right (n:=2) (by omega) hle;omega
   have hd:n/128<2^(k-7):=by
    refine Nat.div_lt_of_lt_mul ?_;rw[show(128:Nat)=2^7 from rfl,←Nat.pow_add,show 7+(k-7)=k by omega];exact hk
   have:=ih (k-7) (by omega) (n/128) hd (by omega) (by omega);rw[zfn hn,List.length_cons,←this,e];omega
theorem qez(n:Nat)(h:n<18446744073709551616):(Lib.bitLen (n ||| 1)+6)/7=(vp n).length:=by
 by_cases h0:n=0
 ·subst h0;rw[ze0 (by omega)];decide
 ·rw[z01 n h0 h,qey 64 n h h0 h]
theorem z92(a:Nat)(h:a<18446744073709551616):bits .xor .u64 (a:Int) 0=a:=by
 have:=u64_xor_nat a 0 h (by omega);simpa using this
theorem z93(a:Nat)(h:a<18446744073709551616):bits .xor .u64 (a:Int) 18446744073709551615=((18446744073709551615-a:Nat):Int):=by
 show IntKind.u64.wrap ((BitVec.ofInt 64 (a:Int) ^^^ BitVec.ofInt 64 18446744073709551615).toNat:Int)=_;rw[show BitVec.ofInt 64 18446744073709551615=BitVec.allOnes 64 from by decide,BitVec.xor_allOnes,BitVec.toNat_not,ofInt_u64 a h,IntKind.wrap_u64];omega
theorem z94(a:Nat)(h:a<9223372036854775808):bits .xor .i64 (a:Int) 0=a:=by
 show IntKind.i64.wrap ((BitVec.ofInt 64 (a:Int) ^^^ BitVec.ofInt 64 0).toNat:Int)=_;rw[show BitVec.ofInt 64 0=0#64 from by decide,BitVec.xor_zero,ofInt_u64 a (by omega),IntKind.wrap_i64];omega
theorem z95(a:Nat)(h:a<9223372036854775808):bits .xor .i64 (a:Int) (-1)= -(a:Int)-1:=by
 show IntKind.i64.wrap ((BitVec.ofInt 64 (a:Int) ^^^ BitVec.ofInt 64 (-1)).toNat:Int)=_;rw[show BitVec.ofInt 64 (-1)=BitVec.allOnes 64 from by decide,BitVec.xor_allOnes,BitVec.toNat_not,ofInt_u64 a (by omega),IntKind.wrap_i64];omega
def zig(x:Int):Nat:=if x<0 then(-(2*x)-1).toNat else(2*x).toNat
def zag(n:Nat):Int:=if n%2=0 then((n/2:Nat):Int) else-((n/2:Nat):Int)-1
theorem znu(x:Int):zag (zig x)=x:=by unfold zig zag;split<;> split<;> omega
theorem zwo(n:Nat):zig (zag n)=n:=by unfold zig zag;split<;> split<;> omega
end Go.Hm
namespace Go.Proofs.YtmgfkpnghlmheaaGreat
open Go.RowKit Go.Hm
def qgz(n:Nat)(w:World)(e:Ending)(w':World):Prop:=e= .returned (.int .i64 ((vp n).length:Int))∧w=w'
theorem zyq(n:Nat)(w:World)(h:n<18446744073709551616):Calls Tryz.prog 118 #[.int .u64 n] w (qgz n w):=by
 have e:bits .or .u64 (n:Int) 1=((n ||| 1:Nat):Int):=by
  have:=u64_or_nat n 1 h (by omega);simpa using this
 have hlt:n ||| 1<2^64:=Nat.or_lt_two_pow h (by omega);have hv:=qez n h;have h10:=zaj h;have hb:=Lib.bitLen_le (n ||| 1) 64 (by omega) hlt
 go_enter Tryz.func118,Tryz.ntmps118
 go_wp2_with (first
  |(go_at_call 151;refine(bits_Len64 ((n ||| 1:Nat):Int) _ (by omega) (by omega)).mono ?_;rintro e w' ⟨rfl,rfl⟩))
 go_ret
 exact⟨by rw[←hv];go_num,rfl⟩
def qg0(w:World)(l:List Nat)(N:Nat)(nv v:Value)(wr:World):Prop:=∃N' D A c,nv= .int .u64 ((N':Nat):Int)∧N'≤N∧D.length+(vp N').length≤l.length+10∧v= .slice A D.length c∧D++vp N'=l++vp N∧Own wr w.heap.size 5 (.slice A D.length c) (za3 .u8 D)∧Below w.heap.size w wr
set_option maxRecDepth 100000 in
theorem zcx(A:Option Addr)(n c:Nat)(l:List Nat)(N:Nat)(w:World)(hr:Reads w w.heap.size 1 A n (za3 .u8 l))(hn:n≤140737488355200)(hN:N≤18446744073709551615):
 Calls Tryz.prog 93 #[.slice A n c,.int .u64 N] w (zc4 (l++vp N) w):=by
 obtain rfl:l.length=n:=by have:=hr.1;rw[zaa] at this;omega
 have hsz:=zaj (n:=N) (by omega)
 go_enter Tryz.func93,Tryz.ntmps93
 go_wp2_with (first
  |(go_at_call 118;refine(zyq N _ (by omega)).mono ?_;rintro e w' ⟨rfl,rfl⟩)
  |(refine zca elB rfl (.tmp 7) (.tmp 12) rfl (W:=w) (B:=w.heap.size) l.length (l.length+(vp N).length) rfl rfl rfl (by simp) (by omega) (Below.refl _ _) (Nat.le_refl _) rfl (by omega) (by simp only[maxLen];omega) ?_
    intro w1 hown1 hg1 hb1 hs1)
  |(refine zno elB rfl (.tmp 14) (.tmp 15) rfl (W:=w) (B:=w.heap.size) hown1 (hr.grown_far hg1 (by simp)) rfl rfl l.length (Nat.min_self _) hb1 (Nat.le_refl _) (zcq _ _) ?_
    intro w2 hown2 hg2 hb2 hs2))
 go_frame
 go_loopw [1,5] (qg0 w l N) (fun nv _ _=>(intOf nv).toNat)
 case atStart=>
  refine⟨N,l,_,_,rfl,Nat.le_refl _,by omega,rfl,rfl,?_,hb2⟩;rw[List.take_of_length_le (by rw[zaa];omega),List.drop_of_length_le (by simp),List.append_nil] at hown2;exact hown2
 case round=>
  obtain⟨N',D,A',c',rfl,hN',hD,rfl,hDN,hown,hb⟩:=hrel;have hb0:=hb.size;by_cases hlt:N'<128
  ·go_wp2_with (first
    |(refine zdq elB rfl (.tmp 27) (.tmp 30) rfl (W:=w) (B:=w.heap.size) hown rfl rfl N' rfl hb (Nat.le_refl _) (by omega) (by omega) (by simp only[maxLen];omega) ?_
      intro A3 c3 w3 _ _ hown3 hg3 hb3 _ _))
   go_ret
   rw[ze0 hlt] at hDN;rw[hDN] at hown3
   have hl':D.length+1=(l++vp N).length:=by rw[←hDN];simp
   rw[hl'] at hown3⊢;exact⟨_,_,_,rfl,hown3,hb3⟩
  ·have hu:=qig N'
   have Hu:=Hz hu;clear hu;have hv:=zfn hlt;have Hv:=Hz hv;clear hv
   go_wp2_with (first
    |(refine zdq elB rfl (.tmp 19) (.tmp 23) rfl (W:=w) (B:=w.heap.size) hown rfl rfl (N'%128+128) (by rw[Hu.out]) hb (Nat.le_refl _) (by omega) (by omega) (by simp only[maxLen];omega) ?_
      intro A3 c3 w3 _ _ hown3 hg3 hb3 _ _))
   go_roundw
   case rel=>
    have hv':=Hv.out;rw[hv',List.length_cons] at hD;exact⟨N'/128,D++[N'%128+128],A3,c3,by go_num,by omega,by simp;omega,by simp,by rw[←hDN,hv'];simp,by simpa using hown3,hb3⟩
   case measure=>simp[intOf];omega
def z39(v:Value)(w:World)(e:Ending)(w':World):Prop:=e= .returned v∧w=w'
theorem znv(x:Int)(w:World)(h: -9223372036854775808≤x)(h1:x≤9223372036854775807):Calls Tryz.prog 179 #[.int .i64 x] w (z39 (.int .u64 (zig x:Int)) w):=by
 have e:bits .xor .u64 (IntKind.u64.wrap (IntKind.u64.wrap x*2)) (IntKind.u64.wrap (x/9223372036854775808))=(zig x:Int):=by
  simp only[IntKind.wrap_u64];by_cases hx:x<0
  ·rw[show(x/9223372036854775808)%18446744073709551616=18446744073709551615 from by omega,
    show x%18446744073709551616*2%18446744073709551616=((18446744073709551616+2*x).toNat:Int) from by omega,z93 _ (by omega)]
   simp only[zig,if_pos hx];omega
  ·rw[show(x/9223372036854775808)%18446744073709551616=0 from by omega,
    show x%18446744073709551616*2%18446744073709551616=((2*x).toNat:Int) from by omega,z92 _ (by omega)]
   simp only[zig,if_neg hx]
 go_enter Tryz.func179,Tryz.ntmps179
 go_wp2
 go_ret
 exact⟨rfl,rfl⟩
theorem znw(x:Nat)(w:World)(h:x<18446744073709551616):Calls Tryz.prog 211 #[.int .u64 (x:Int)] w (z39 (.int .i64 (zag x)) w):=by
 have e1:bits .and .u64 (x:Int) 1=((x%2:Nat):Int):=by
  have:=u64_and_nat x 1 h (by omega);rw[nat_mask1] at this;simpa using this
 have e:bits .xor .i64 ((x:Int)/2) (-((x:Int)%2))=zag x:=by
  by_cases hx:x%2=0
  ·rw[show(-((x:Int)%2))=0 from by omega,show((x:Int)/2)=((x/2:Nat):Int) from by omega,z94 _ (by omega)]
   simp only[zag,if_pos hx]
  ·rw[show(-((x:Int)%2))= -1 from by omega,show((x:Int)/2)=((x/2:Nat):Int) from by omega,z95 _ (by omega)]
   simp only[zag,if_neg hx]
 go_enter Tryz.func211,Tryz.ntmps211
 go_wp2
 go_ret
 exact⟨rfl,rfl⟩
end Go.Proofs.YtmgfkpnghlmheaaGreat
namespace Go.Hm
open Go Go.RowKit
theorem qds:∀a b:List UInt8,Lib.compareBytes b a= -Lib.compareBytes a b
 | [],[]=>by simp[Lib.compareBytes]
 | [],_::_=>by simp[Lib.compareBytes]
 |_::_,[]=>by simp[Lib.compareBytes]
 |x::a,y::b=>by
  have ih:=qds a b;unfold Lib.compareBytes;by_cases h1:x<y
  ·have h2: ¬y<x:=fun h=>UInt8.lt_irrefl _ (UInt8.lt_trans h h1)
   rw[if_neg h2,if_pos h1,if_pos h1];rfl
  ·by_cases h2:y<x
   ·rw[if_pos h2,if_neg h1,if_pos h2]
   ·rw[if_neg h2,if_neg h1,if_neg h1,if_neg h2,ih]
theorem z5w:∀a b:List UInt8,Lib.compareBytes a b=0↔a=b
 | [],[]=>by simp[Lib.compareBytes]
 | [],_::_=>by simp[Lib.compareBytes]
 |_::_,[]=>by simp[Lib.compareBytes]
 |x::a,y::b=>by
  have ih:=z5w a b;unfold Lib.compareBytes;by_cases h1:x<y
  ·have hne:x≠y:=by rintro rfl;exact UInt8.lt_irrefl _ h1
   rw[if_pos h1];simp[hne]
  ·by_cases h2:y<x
   ·have hne:x≠y:=by rintro rfl;exact h1 h2
    rw[if_neg h1,if_pos h2];simp[hne]
   ·have he:x=y:=UInt8.le_antisymm (UInt8.not_lt.1 h2) (UInt8.not_lt.1 h1)
    subst he;rw[if_neg h1,if_neg h1,ih];simp
theorem zzi:∀a b c:List UInt8,Lib.compareBytes a b≤0→Lib.compareBytes b c≤0→Lib.compareBytes a c≤0
 | [],b,[]=>by simp[Lib.compareBytes]
 | [],b,_::_=>by simp[Lib.compareBytes]
 |_::_,[],c=>by simp[Lib.compareBytes]
 |_::_,_::_,[]=>by simp[Lib.compareBytes]
 |x::a,y::b,z::c=>by
  have ih:=zzi a b c;unfold Lib.compareBytes;intro h1 h2;by_cases xz:x<z
  ·rw[if_pos xz];decide
  ·rw[if_neg xz]
   by_cases xy:x<y
   ·have yz: ¬y<z:=fun h=>xz (UInt8.lt_trans xy h)
    rw[if_neg yz] at h2;by_cases zy:z<y
    ·rw[if_pos zy] at h2;omega
    ·have he:y=z:=UInt8.le_antisymm (UInt8.not_lt.1 zy) (UInt8.not_lt.1 yz)
     exact absurd (he▸xy) xz
   ·rw[if_neg xy] at h1
    by_cases yx:y<x
    ·rw[if_pos yx] at h1;omega
    ·rw[if_neg yx] at h1
     have he:x=y:=UInt8.le_antisymm (UInt8.not_lt.1 yx) (UInt8.not_lt.1 xy);subst he;rw[if_neg xz] at h2;by_cases zx:z<x
     ·rw[if_pos zx] at h2;omega
     ·rw[if_neg zx] at h2⊢
      exact ih h1 h2
theorem qbe{a b:Bool}(h:(a||b)=true):z3l b a= -z3l a b:=by
 cases a<;> cases b<;> simp_all[z3l]
theorem zm9(t:Int)(a b:zab):zjc t b a= -zjc t a b:=by
 unfold zjc;by_cases h:(a.1||b.1)=true
 ·have h':(b.1||a.1)=true:=by rw[Bool.or_comm];exact h
  rw[if_pos h',if_pos h,qbe h]
 ·have h': ¬(b.1||a.1)=true:=by rw[Bool.or_comm];exact h
  rw[if_neg h',if_neg h,zm8 a.2.1,qbd a.2.2.2.1,qa7,qa7,qds];split
  ·rfl
  ·split
   ·rfl
   ·split
    ·rfl
    ·rfl
theorem zqp:∀{a b:List Nat},(∀z∈a,z<256)→(∀z∈b,z<256)→a.map UInt8.ofNat=b.map UInt8.ofNat→a=b
 | [],[],_,_,_=>rfl
 | [],_::_,_,_,h=>by simp at h
 |_::_,[],_,_,h=>by simp at h
 |x::a,y::b,ha,hb,h=>by
  rw[List.map_cons,List.map_cons,List.cons.injEq] at h
  have e1:x=y:=by
   have:=congrArg UInt8.toNat h.1;rw[UInt8.toNat_ofNat',UInt8.toNat_ofNat',Nat.mod_eq_of_lt (ha x (by simp)),Nat.mod_eq_of_lt (hb y (by simp))] at this;exact this
  rw[e1,zqp (fun z hz=>ha z (by simp[hz])) (fun z hz=>hb z (by simp[hz])) h.2]
theorem z5x{t:Int}{nu:Bool}{a b:zab}(ha:zac a t nu=true)(hb:zac b t nu=true)(fa:∀z∈a.2.2.1,z<256)(fb:∀z∈b.2.2.1,z<256):zjc t a b=0↔a=b:=by
 obtain⟨na,ia,sa,xa,ya⟩:=a;obtain⟨nb,ib,sb,xb,yb⟩:=b;simp only at fa fb
 have ht:qa7 sa sb=0↔sa=sb:=by
  rw[qa7,z5w];exact⟨zqp fa fb,fun h=>by rw[h]⟩
 unfold zac at ha hb;unfold zjc;cases na<;> cases nb
 ·simp only[Bool.or_self,Bool.false_eq_true,if_false] at ha hb⊢
  by_cases h0:t=0
  ·subst h0
   simp at ha hb;simp[cmpI_zero,ha,hb]
  ·by_cases h1:t=1
   ·subst h1
    simp at ha hb;simp[cmpI_zero,ha,hb]
   ·by_cases h2:t=2
    ·subst h2
     simp at ha hb;simp[ht,ha,hb]
    ·by_cases h3:t=3
     ·subst h3
      simp at ha hb;simp[z5u,ha,hb]
     ·simp[h0,h1,h2,h3] at ha
 ·simp[z3l]
 ·simp[z3l]
 ·simp at ha hb
  simp[z3l,ha,hb]
theorem zi4{t:Int}{a b c:zab}(h1:zjc t a b≤0)(h2:zjc t b c≤0):zjc t a c≤0:=by
 obtain⟨na,ia,sa,xa,ya⟩:=a;obtain⟨nb,ib,sb,xb,yb⟩:=b;obtain⟨nc,ic,sc,xc,yc⟩:=c;unfold zjc at*;cases na
 ·cases nb
  ·cases nc
   ·simp only[Bool.or_self,Bool.false_eq_true,if_false] at h1 h2⊢
    split
    ·rename_i ht
     rw[if_pos ht,zoe] at h1 h2;rw[zoe];omega
    ·rename_i ht
     rw[if_neg ht] at h1 h2;split
     ·rename_i ht
      rw[if_pos ht,qa7] at h1 h2;exact zzi _ _ _ h1 h2
     ·rename_i ht
      rw[if_neg ht] at h1 h2;split
      ·rename_i ht
       rw[if_pos ht,z5v] at h1 h2;rw[z5v];generalize xa*xa+ya*ya=n1 at*;generalize xb*xb+yb*yb=n2 at*;generalize xc*xc+yc*yc=n3 at*;omega
      ·omega
   ·simp[z3l] at h2
  ·simp[z3l] at h1
 ·cases nc<;> simp[z3l]
theorem zi5{t:Int}{nu:Bool}{a:zab}(h:zac a t nu=true):(-1048576≤a.2.2.2.1∧a.2.2.2.1≤1048576)∧ -1048576≤a.2.2.2.2∧a.2.2.2.2≤1048576:=by
 obtain⟨na,ia,sa,xa,ya⟩:=a;unfold zac at h;show(-1048576≤xa∧xa≤1048576)∧ -1048576≤ya∧ya≤1048576;cases na
 ·simp only[Bool.false_eq_true,if_false] at h
  by_cases h0:t=0
  ·subst h0;simp at h;omega
  ·by_cases h1:t=1
   ·subst h1;simp at h;omega
   ·by_cases h2:t=2
    ·subst h2;simp at h;omega
    ·by_cases h3:t=3
     ·subst h3;simp[inBox] at h;omega
     ·simp[h0,h1,h2,h3] at h
 ·simp at h;omega
end Go.Hm
namespace Go.Hm
open Go Go.RowKit
abbrev zc9:=Int × Bool × zab × zab
def zbw:zc9:=(0,false,zay,zay)
def zb6(s:zc9):List Value:= .int .i64 s.1:: .bool s.2.1::(zak s.2.2.1++zak s.2.2.2)
def nullsL(l:List zab):Nat:=(l.filter fun c=>c.1).length
structure IsStat(t:Int)(l:List zab)(s:zc9):Prop where
 nulls:s.1=(nullsL l:Int)
 has:s.2.1=true↔∃c∈l,c.1=false
 none:s.2.1=false→s.2.2.1=zay∧s.2.2.2=zay
 least:s.2.1=true→(s.2.2.1∈l∧s.2.2.1.1=false)∧∀c∈l,c.1=false→zjc t s.2.2.1 c≤0
 most:s.2.1=true→(s.2.2.2∈l∧s.2.2.2.1=false)∧∀c∈l,c.1=false→zjc t c s.2.2.2≤0
theorem zup(t:Int)(c:zab):zjc t c c=0:=by
 have:=zm9 t c c;omega
theorem zsi(a b:List zab):nullsL (a++b)=nullsL a+nullsL b:=by
 unfold nullsL;rw[List.filter_append,List.length_append]
theorem zij(l:List zab):nullsL l≤l.length:=List.length_filter_le _ _
def zjx(c:zab):zc9:=if c.1 then(1,false,zay,zay) else(0,true,c,c)
theorem zqq(t:Int):IsStat t [] zbw:=⟨rfl,by simp[zbw],fun _=>⟨rfl,rfl⟩,fun h=>by simp[zbw] at h,fun h=>by simp[zbw] at h⟩
theorem zqr(t:Int)(c:zab):IsStat t [c] (zjx c):=by
 have h0:=zup t c;unfold zjx
 cases hc:c.1 with
 |true=>
  rw[if_pos rfl];exact⟨by simp[nullsL,hc],by simp[hc],fun _=>⟨rfl,rfl⟩,fun h=>by simp at h,fun h=>by simp at h⟩
 |false=>
  rw[if_neg (by simp)];refine⟨by simp[nullsL,hc],by simp[hc],fun h=>by simp at h,fun _=>⟨⟨by simp,hc⟩,fun d hd _=>?_⟩,fun _=>⟨⟨by simp,hc⟩,fun d hd _=>?_⟩⟩
  ·rw[List.mem_singleton.1 hd]
   show zjc t c c≤0;omega
  ·rw[List.mem_singleton.1 hd]
   show zjc t c c≤0;omega
def zmd(t:Int)(a b:zc9):zc9:=
 if a.2.1 then(a.1+b.1,true,if b.2.1&&decide (zjc t b.2.2.1 a.2.2.1<0) then b.2.2.1 else a.2.2.1,if b.2.1&&decide (0<zjc t b.2.2.2 a.2.2.2) then b.2.2.2 else a.2.2.2)
 else if b.2.1 then(a.1+b.1,true,b.2.2.1,b.2.2.2) else(a.1+b.1,false,zay,zay)
theorem IsStat.merge{t:Int}{a b:List zab}{x y:zc9}(h:IsStat t a x)(k:IsStat t b y):IsStat t (a++b) (zmd t x y):=by
 obtain⟨xn,xh,x1,x2⟩:=x;obtain⟨yn,yh,y1,y2⟩:=y;obtain⟨h1,h2,h3,h4,h5⟩:=h;obtain⟨k1,k2,k3,k4,k5⟩:=k;dsimp only at*
 have hn:xn+yn=(nullsL (a++b):Int):=by rw[zsi];omega
 have hex:(∃c∈a++b,c.1=false)↔(xh=true∨yh=true):=by
  rw[h2,k2];constructor
  ·rintro⟨c,hc,e⟩
   rcases List.mem_append.1 hc with hc|hc
   ·exact .inl ⟨c,hc,e⟩
   ·exact .inr ⟨c,hc,e⟩
  ·rintro(⟨c,hc,e⟩|⟨c,hc,e⟩)
   ·exact⟨c,List.mem_append_left _ hc,e⟩
   ·exact⟨c,List.mem_append_right _ hc,e⟩
 unfold zmd;dsimp only
 cases xh with
 |true=>
  rw[if_pos rfl];obtain⟨⟨p1,p2⟩,p3⟩:=h4 rfl;obtain⟨⟨q1,q2⟩,q3⟩:=h5 rfl
  cases yh with
  |false=>
   have hno:∀c∈b,c.1=false→False:=fun c hc e=>by have:=k2.2 ⟨c,hc,e⟩;simp at this
   simp only[Bool.false_and,Bool.false_eq_true,if_false];refine⟨hn,?_,?_,?_,?_⟩
   ·rw[hex];simp
   ·intro h;simp at h
   ·intro _
    exact⟨⟨List.mem_append_left _ p1,p2⟩,fun c hc e=>by
     rcases List.mem_append.1 hc with hc|hc
     ·exact p3 c hc e
     ·exact(hno c hc e).elim⟩
   ·intro _
    exact⟨⟨List.mem_append_left _ q1,q2⟩,fun c hc e=>by
     rcases List.mem_append.1 hc with hc|hc
     ·exact q3 c hc e
     ·exact(hno c hc e).elim⟩
  |true=>
   obtain⟨⟨u1,u2⟩,u3⟩:=k4 rfl;obtain⟨⟨v1,v2⟩,v3⟩:=k5 rfl;simp only[Bool.true_and,decide_eq_true_eq];refine⟨hn,?_,?_,?_,?_⟩
   ·rw[hex];simp
   ·intro h;simp at h
   ·intro _
    dsimp only;by_cases hlt:zjc t y1 x1<0
    ·rw[if_pos hlt]
     exact⟨⟨List.mem_append_right _ u1,u2⟩,fun c hc e=>by
      rcases List.mem_append.1 hc with hc|hc
      ·exact zi4 (by omega) (p3 c hc e)
      ·exact u3 c hc e⟩
    ·rw[if_neg hlt]
     have hg:zjc t x1 y1≤0:=by rw[zm9];omega
     exact⟨⟨List.mem_append_left _ p1,p2⟩,fun c hc e=>by
      rcases List.mem_append.1 hc with hc|hc
      ·exact p3 c hc e
      ·exact zi4 hg (u3 c hc e)⟩
   ·intro _
    dsimp only;by_cases hlt:0<zjc t y2 x2
    ·rw[if_pos hlt]
     have hg:zjc t x2 y2≤0:=by rw[zm9];omega
     exact⟨⟨List.mem_append_right _ v1,v2⟩,fun c hc e=>by
      rcases List.mem_append.1 hc with hc|hc
      ·exact zi4 (q3 c hc e) hg
      ·exact v3 c hc e⟩
    ·rw[if_neg hlt]
     exact⟨⟨List.mem_append_left _ q1,q2⟩,fun c hc e=>by
      rcases List.mem_append.1 hc with hc|hc
      ·exact q3 c hc e
      ·exact zi4 (v3 c hc e) (by omega)⟩
 |false=>
  have hno:∀c∈a,c.1=false→False:=fun c hc e=>by have:=h2.2 ⟨c,hc,e⟩;simp at this
  rw[if_neg (by simp)]
  cases yh with
  |false=>
   rw[if_neg (by simp)];exact⟨hn,by rw[hex];simp,fun _=>⟨rfl,rfl⟩,fun h=>by simp at h,fun h=>by simp at h⟩
  |true=>
   rw[if_pos rfl];obtain⟨⟨u1,u2⟩,u3⟩:=k4 rfl;obtain⟨⟨v1,v2⟩,v3⟩:=k5 rfl;refine⟨hn,by rw[hex];simp,fun h=>by simp at h,?_,?_⟩
   ·intro _
    exact⟨⟨List.mem_append_right _ u1,u2⟩,fun c hc e=>by
     rcases List.mem_append.1 hc with hc|hc
     ·exact(hno c hc e).elim
     ·exact u3 c hc e⟩
   ·intro _
    exact⟨⟨List.mem_append_right _ v1,v2⟩,fun c hc e=>by
     rcases List.mem_append.1 hc with hc|hc
     ·exact(hno c hc e).elim
     ·exact v3 c hc e⟩
theorem IsStat.uniq{t:Int}{l:List zab}(hr:∀c∈l,zac c t true=true)(h8:∀c∈l,∀z∈c.2.2.1,z<256){x y:zc9}(h:IsStat t l x)(k:IsStat t l y):x=y:=by
 obtain⟨xn,xh,x1,x2⟩:=x;obtain⟨yn,yh,y1,y2⟩:=y;obtain⟨h1,h2,h3,h4,h5⟩:=h;obtain⟨k1,k2,k3,k4,k5⟩:=k;dsimp only at*
 have hh:xh=yh:=by rw[Bool.eq_iff_iff,h2,k2]
 subst hh
 have key:∀{a b:zab},a∈l→b∈l→zjc t a b≤0→zjc t b a≤0→a=b:=fun {a b} ha hb p q=>by
  rw[zm9] at q;exact(z5x (hr a ha) (hr b hb) (h8 a ha) (h8 b hb)).1 (by omega)
 rw[show xn=yn by omega]
 cases xh with
 |false=>
  rw[(h3 rfl).1,(h3 rfl).2,(k3 rfl).1,(k3 rfl).2]
 |true=>
  obtain⟨⟨p1,p2⟩,p3⟩:=h4 rfl;obtain⟨⟨q1,q2⟩,q3⟩:=h5 rfl;obtain⟨⟨u1,u2⟩,u3⟩:=k4 rfl;obtain⟨⟨v1,v2⟩,v3⟩:=k5 rfl;rw[key p1 u1 (p3 _ u1 u2) (u3 _ p1 p2),key q1 v1 (v3 _ q1 q2) (q3 _ v1 v2)]
def zb7(t:Int)(s:zc9):Bool:=
 if t<0∨3<t∨s.1<0∨65536<s.1 then false
 else if s.2.1 then zac s.2.2.1 t false&&(zac s.2.2.2 t false&&decide (zjc t s.2.2.1 s.2.2.2≤0))
 else decide (s.2.2.1=zay)&&decide (s.2.2.2=zay)
theorem zjy{c:zab}{t:Int}(h:zac c t true=true)(hc:c.1=false):zac c t false=true:=by
 unfold zac at h⊢;rw[hc] at h⊢;simpa using h
theorem IsStat.right{t:Int}{l:List zab}{s:zc9}(h:IsStat t l s)(hr:∀c∈l,zac c t true=true)(ht:0≤t∧t≤3)(hl:l.length≤65536):zb7 t s=true:=by
 unfold zb7;have hn:=zij l;have:=h.nulls;rw[if_neg (by omega)]
 cases hh:s.2.1 with
 |false=>
  obtain⟨e1,e2⟩:=h.none hh;simp[e1,e2]
 |true=>
  obtain⟨⟨p1,p2⟩,p3⟩:=h.least hh;obtain⟨⟨q1,q2⟩,q3⟩:=h.most hh;simp[zjy (hr _ p1) p2,zjy (hr _ q1) q2,p3 _ q1 q2]
end Go.Hm
namespace Go.Hm
open Go Go.RowKit
def zb4(s:zc9):Value:= .agg (zb6 s).toArray
end Go.Hm
namespace Go.Proofs.YtmgfkpnghlmheaaGreat
open Go.RowKit Go.Hm
set_option maxRecDepth 100000 in
theorem z1w{w:World}(c:zab):Calls Tryz.prog 129 #[zcz c] w (zap (zb4 (zjx c)) w):=by
 obtain⟨b,n,s,x,y⟩:=c
 cases b with
 |true=>
  show Calls Tryz.prog 129 #[.agg #[.bool true,.int .i64 n,.string (zae s),.int .i64 x,.int .i64 y]] w (zap (zb4 (1,false,zay,zay)) w)
  go_enter Tryz.func129,Tryz.ntmps129
  go_wp2
  exact bodyPost_ret (v:=zb4 (1,false,zay,zay)) (by simp[results,Tryz.results129,go_sem,zb4,zb6,zak,zay,show zae []=⟨#[]⟩ from rfl]) rfl ⟨rfl,zwx w _ _⟩
 |false=>
  show Calls Tryz.prog 129 #[.agg #[.bool false,.int .i64 n,.string (zae s),.int .i64 x,.int .i64 y]] w (zap (zb4 (0,true,(false,n,s,x,y),(false,n,s,x,y))) w);have B0:=Blk.new w 61 #[.bool false,.int .i64 n,.string (zae s),.int .i64 x,.int .i64 y];obtain⟨x0,x1,x2,x3,x4⟩:=zcm (B0.alloc (.cells #[.int .i64 0,.bool false,.bool false,.int .i64 0,.string ⟨#[]⟩,.int .i64 0,.int .i64 0,.bool false,.int .i64 0,.string ⟨#[]⟩,.int .i64 0,.int .i64 0] 63));clear B0
  go_enter Tryz.func129,Tryz.ntmps129
  go_wp2
  exact bodyPost_ret (v:=zb4 (0,true,(false,n,s,x,y),(false,n,s,x,y))) (by simp[results,Tryz.results129,go_sem,zb4,zb6,zak]) rfl ⟨rfl,zwx w _ _⟩
end Go.Proofs.YtmgfkpnghlmheaaGreat
namespace Go.Hm
open Go Go.RowKit
def boolN(b:Bool):Nat:=if b then 1 else 0
def z2b(c:za0):List Nat:=vp c.1.length++c.1++[c.2.1.toNat,boolN c.2.2]
def zj5(l:List za0):List Nat:=l.flatMap z2b
theorem qbq:zj5 []=[]:=rfl
theorem z6m(l:List za0)(c:za0):zj5 (l++[c])=zj5 l++(vp c.1.length++c.1++[c.2.1.toNat,boolN c.2.2]):=by simp[zj5,z2b]
theorem z6n(l:List za0)(c:za0):zj5 (c::l)=(vp c.1.length++c.1++[c.2.1.toNat,boolN c.2.2])++zj5 l:=by simp[zj5,z2b]
theorem zzw(l:List za0)(h:∀x∈l,x.1.length≤100):(zj5 l).length≤112*l.length:=by
 induction l with
 |nil=>simp[zj5]
 |cons c l ih=>
  have h1:=ih fun x hx=>h x (by simp[hx])
  have h2:=h c (by simp);have h3:=zaj (n:=c.1.length) (by omega);rw[z6n];simp only[List.length_append,List.length_cons,List.length_nil] at*;omega
def putC(b:List Nat)(l:List za0):List Nat:=if zch l=0 then b++vp l.length++zj5 l else b
end Go.Hm
namespace Go.Proofs.YtmgfkpnghlmheaaGreat
open Go.RowKit Go.Hm
theorem qbr(b:Bool)(w:World):Calls Tryz.prog 94 #[.bool b] w (zdx (.int .u8 ((boolN b:Nat):Int)) w):=by
 cases b
 all_goals
  go_enter Tryz.func94,Tryz.ntmps94
  go_wp2
  go_ret
  exact⟨rfl,rfl⟩
set_option maxRecDepth 100000 in
theorem qbs{w:World}{A A2:Option Addr}{n c n2 c2:Nat}{b:List Nat}{L:List za0}(h:Reads w w.heap.size 1 A n (za3 .u8 b))(hn:n≤140737488300000)(h2:Reads w w.heap.size 3 A2 n2 (recs zh4 L))(hL:∀x∈L,(∀z∈x.1,z<256)∧x.1.length≤140737488351232)(hc:n2≤c2)(hn2:n2≤4611686018427387903):
 Calls Tryz.prog 56 #[.slice A n c,.slice A2 n2 c2] w (zc4 (putC b L) w):=by
 have P0:=Hz (znd (c:=c2) h2 hL hc hn2);obtain rfl:=h2.lenC;by_cases hk:zch L=0
 ·rw[hk] at P0
  have HO:=Hz (show putC b L=b++vp L.length++zj5 L by rw[putC,if_pos hk]);obtain⟨m1,m2,_⟩:=(zdg L).1 hk;generalize putC b L=O at*;have M2:=Hz m2;have HLL:=Hz hL;have vl:=zaj (n:=L.length) (by omega);have VL:=Hz vl;have hln:=h.len;have LN:=Hz hln;clear hk m2 hL hln
  go_enter Tryz.func56,Tryz.ntmps56
  go_wp2_with fail
  refine P0.out.mono ?_;rintro e w1 ⟨rfl,b1⟩;have P1:=Hz (zcx A n c b L.length w1 (Reads.later h b1) (by omega) (by omega))
  go_wp2_with fail
  refine P1.out.mono ?_;rintro e w2 ⟨A3,n3,c3,rfl,k3,b2⟩;have b02:=New.trans b1 b2;have Z1:=b1.size;clear P0 P1 b1 vl
  go_wp2
  go_loopw [5,20] (fun v i wr=>∃(k:Nat) (A:Option Addr) (m c5:Nat),i= .int .i64 (k:Int)∧k≤L.length∧v= .slice A m c5∧Own wr w.heap.size 5 (.slice A m c5) (za3 .u8 (b++vp L.length++zj5 (L.take k)))∧New w wr) (fun _ i _=>L.length-(intOf i).toNat)
  case atStart=>exact⟨0,_,_,_,rfl,by omega,rfl,by rw[List.take_zero,qbq,List.append_nil];exact k3.base_le Z1,b02⟩
  case round=>
   obtain⟨k,A5,m5,c5,rfl,hk,rfl,o5,b5⟩:=hrel;have z5:=b5.size;by_cases hlt:k<L.length
   ·obtain⟨ad,rfl,hbk,d0,d1,d2⟩:=(Reads.later h2 b5).colT hlt
    have hx:(L.getD k ([],0,false))∈L:=by rw[List.getD_eq_getElem?_getD,List.getElem?_eq_getElem hlt];exact List.getElem_mem hlt
    obtain⟨x1,x2,x3,x4⟩:=M2.out _ hx;have y1:=(HLL.out _ hx).1;have T:=zad L k ([],0,false) hlt
    have q5:m5≤n+7200:=by
     have l:=o5.len;have l2:=zzw (L.take k) (fun x hx=>(M2.out x (List.mem_of_mem_take hx)).2.1);rw[zaa,List.length_append,List.length_append] at l;rw[List.length_take] at l2;have:=VL.out;have:=LN.out;omega
    have HT:=Hz (show b++vp L.length++zj5 (L.take (k+1))=b++vp L.length++zj5 (L.take k)++vp (L.getD k ([],0,false)).1.length++(L.getD k ([],0,false)).1++[(L.getD k ([],0,false)).2.1.toNat,boolN (L.getD k ([],0,false)).2.2] by rw[T,z6m];simp);clear T hx;generalize(L.getD k ([],0,false)).1=s2 at*;generalize(L.getD k ([],0,false)).2.1=t2 at*;generalize(L.getD k ([],0,false)).2.2=n2 at*;obtain⟨t2,rfl⟩:=Int.eq_ofNat_of_zero_le x3;rw[Int.toNat_natCast] at HT;have zs:=zbf s2;have vs:=zaj (n:=s2.length) (by omega);have VS:=Hz vs;have Y1:=Hz y1
    have hiz:(k:Int)<(L.length:Int):=by omega
    obtain⟨W1,hW1⟩:∃W,W=wr.alloc (.cells #[.string (zae s2),.int .i64 (t2:Int),.bool n2] 70):=⟨_,rfl⟩
    have b51:New w W1:=by rw[hW1];exact Below.alloc b5 b5.size _
    have Y:Blk W1 wr.heap.size 70 #[.string (zae s2),.int .i64 (t2:Int),.bool n2]:=by rw[hW1];exact Blk.new _ _ _
    have o51:Own W1 w.heap.size 5 (.slice A5 m5 c5) (za3 .u8 (b++vp L.length++zj5 (L.take k))):=by rw[hW1];exact o5.alloc _
    have hg7:wr.heap.size<W1.heap.size:=Y.lt;obtain⟨p0,p1,p2⟩:=zaf Y;have P6:=Hz (zcx none 0 0 [] s2.length W1 Reads.none_ (by omega) (by omega));rw[hW1] at p0 p1 p2;rw[hW1] at P6;clear y1 o5;have HY:=Hz Y;have HW1:=Hz hW1;clear Y vs hW1
    go_wp2_with fail
    refine P6.out.mono ?_;rintro e w7 ⟨A7,n7,c7,rfl,k7,b7⟩;rw[←HW1.out] at b7 k7;rw[List.nil_append] at k7;have b07:=New.trans b51 b7;have o7:=o51.later b7;have Y7:=HY.out.below b7 HY.out.lt
    have q7:n7≤10:=by have:=k7.len;rw[zaa] at this;have:=VS.out;omega
    have r7:=k7.reads;have z7:=b07.size;clear b7 k7 P6 p0 p1 p2 o51
    go_wp2_with (first
     |(refine zas elB rfl (.tmp 24) (.tmp 29) rfl (W:=w) (B:=w.heap.size) o7 r7 rfl rfl b07 (Nat.le_refl _) z7 (by omega) (by simp only[maxLen];omega) ?_
       intro A8 c8 w8 _ _ o8 g8 b08 _;have Y8:=Y7.push o7 g8 (by decide);obtain⟨p0,p1,p2⟩:=zaf Y8;have HY8:=Hz Y8;have z8:=b08.size
       clear Y8)
     |(refine zew elB qdl rfl (.tmp 31) (.tmp 33) rfl (W:=w) (B:=w.heap.size) o8 Y1.out rfl rfl b08 (Nat.le_refl _) z8 (by omega) ?_
       intro A9 c9 w9 _ _ o9 g9 b09;have HY9:=Hz (HY8.out.push o8 g9 (by decide));have z9:=b09.size
       clear p0 p1 p2))
    have HC:=Hz (fun(W:World) (hW:w9.grownBy W (Value.ownBlock (.slice A9 (m5+n7+s2.length) c9)))=>zaf (HY9.out.grown hW (fun e=>o9.blk_ne HY9.out (by decide) e.symm)))
    refine zat (fun x y=>x.grownBy y (Value.ownBlock (.slice A9 (m5+n7+s2.length) c9))) [(true,0),(true,1),(true,2),(true,3),(true,4),(true,5),(false,6),(false,7),(false,8),(true,9)]
     (fun x=>World.grownBy.refl x _) World.grownBy.trans (by kernel_rfl) (by kernel_rfl) (by kernel_rfl) (by kernel_rfl) ?_
    have e8:IntKind.u8.wrap (t2:Int)=(t2:Int):=by rw[IntKind.wrap_u8];omega
    have MK:=Hz (fun W=>qbr n2 W);generalize hmk:boolN n2=mk at*;have o10:Own (w9.alloc (.cells #[.int .u8 (t2:Int),.int .u8 (mk:Int)] 5)).drew w.heap.size 5 (.slice A9 (m5+n7+s2.length) c9) (za3 .u8 (b++vp L.length++zj5 (L.take k)++vp s2.length++s2)):=o9.alloc _;have r10:Reads (w9.alloc (.cells #[.int .u8 (t2:Int),.int .u8 (mk:Int)] 5)).drew (w9.alloc (.cells #[.int .u8 (t2:Int),.int .u8 (mk:Int)] 5)).drew.heap.size 1 (some ⟨w9.heap.size,0,none⟩) 2 (za3 .u8 [t2,mk]):=Reads.litV w9 5 #[.int .u8 (t2:Int),.int .u8 (mk:Int)] 2 (za3 .u8 [t2,mk]) rfl rfl
    repeat(first
     |(refine zba rfl rfl (fun K hK=>?_);go_simp
       (with_reducible refine(MK.out _).mono ?_)
       rintro e w11 ⟨rfl,rfl⟩;refine hK _ _ (World.grownBy.refl _ _) ?_
       clear hK)
     |(refine za2 rfl rfl (v:=?_) (fun W hW=>?_) ?_;rotate_left;(obtain⟨p0,p1,p2⟩:=HC.out W (World.grownBy.trans z06 hW);go_simp<;> with_reducible rfl);simp only[Act.put,List.setIfInBounds_toArray,List.set_cons_zero,List.set_cons_succ]))
    refine zba rfl rfl (fun K hK=>?_)
    go_simp
    refine hK _ _ (World.grownBy_alloc w9.drew _ _) ?_;clear hK;refine zba rfl rfl (fun K hK=>?_);have b10:Below w.heap.size w (w9.alloc (.cells #[.int .u8 (t2:Int),.int .u8 (mk:Int)] 5)).drew:=(b09.alloc z9 _).drew;refine zkn elB (.tmp 35) (.tmp 42) rfl (W:=w) (B:=w.heap.size) o10 r10 (by omega) rfl rfl b10 (Nat.le_refl _) b10.size (zcq _ _) (by rw[←o10.len];omega) (by rw[←o10.len];simp only[maxLen];omega) ?_;intro A11 c11 w11 _ _ o11 g11 b11;refine hK _ _ g11 ?_;clear hK;rw[←zdp,←o10.len] at o11;rw[←o10.len];refine za2 rfl rfl (v:=?_) (fun W hW=>?_) ?_
    rotate_left
    ·go_simp<;> with_reducible rfl
    simp only[Act.put,List.setIfInBounds_toArray,List.set_cons_zero,List.set_cons_succ];refine zc2 ?_
    go_wp2
    go_roundw
    case rel=>exact⟨k+1,_,_,_,by go_num,by omega,rfl,by rw[HT.out];exact o11,b11⟩
    case measure=>simp[intOf];omega
   ·obtain rfl:k=L.length:=by omega
    rw[List.take_length] at o5
    go_wp2
    go_ret
    exact⟨_,_,_,rfl,by rw[HO.out];exact o5,b5⟩
 ·have HO:=Hz (show putC b L=b by rw[putC,if_neg hk])
  generalize putC b L=O at*;generalize zch L=ck at*
  have e1:(ck != 0)=true:=by simpa using hk
  clear hk
  go_enter Tryz.func56,Tryz.ntmps56
  go_wp2_with fail
  refine P0.out.mono ?_;rintro e w1 ⟨rfl,b1⟩;have P1:=Hz (zgs (c:=c) (Reads.later h b1) (by omega));clear P0
  go_wp2_with fail
  refine P1.out.mono ?_;rintro e w2 ⟨A3,n3,c3,rfl,k3,b2⟩;have Z1:=b1.size
  go_wp2
  go_ret
  exact⟨_,_,_,rfl,by rw[HO.out];exact k3.base_le Z1,New.trans b1 b2⟩
end Go.Proofs.YtmgfkpnghlmheaaGreat
