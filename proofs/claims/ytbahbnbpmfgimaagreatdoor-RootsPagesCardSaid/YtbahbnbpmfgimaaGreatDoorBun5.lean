/- Merged. -/
import Derived.Test.YtbahbnbpmfgimaaGreatDoorBun3
set_option maxHeartbeats 400000
namespace Go.Hm
open Go Go.RowKit
def U32(x:Int):Prop:=0<=x/\x<4294967296
def rot(x:Int)(n:Nat):Int:=(x/2^n+x*2^(32-n)%4294967296)%4294967296
theorem z5u{n:Nat}(hn:n<=32):2^n*2^(32-n)=4294967296:=by rw[<-qol,show n+(32-n)=32 by omega]
theorem qi9{x:Int}{n:Nat}(hx:U32 x)(h2:n<=31):bits .or .u32 (x/2^n) (x*2^(32-n)%4294967296)=rot x n:=by
 obtain⟨h0,h3⟩:=hx;obtain⟨X,rfl⟩:=qon h0;have hX:X<4294967296:=by omega
 have hp:=z5u (show n<=32 by omega);have hm:X*2^(32-n)%4294967296=(X%2^n)*2^(32-n):=by rw[<-hp,Nat.mul_mod_mul_right]
 have hd:X/2^n<2^(32-n):=qns (by rw[hp];exact hX);have hp1:=qog n;have hr:X%2^n<2^n:=qn0 _ hp1;have hs:X/2^n+(X%2^n)*2^(32-n)<4294967296:=by have h4:(X%2^n+1)*2^(32-n)<=2^n*2^(32-n):=qms _ hr;rw[hp,qoo] at h4;omega
 have e1:((X:Int)/2^n)=((X/2^n:Nat):Int):=by simp
 have e2:((X:Int)*2^(32-n)%4294967296)=((X*2^(32-n)%4294967296:Nat):Int):=by simp
 unfold rot;rw[e1,e2,hm,u32_or_nat _ _ (by generalize X%2^n*2^(32-n)=b at*;omega) (by generalize X/2^n=a at*;omega),qn5,zq9 _ _ _ hd];clear e1 e2 hm hd hr hp;generalize X/2^n=a at*;generalize X%2^n*2^(32-n)=b at*;omega
def zum(a b c d:Nat):Int:=(((a*256+b)*256+c)*256+d:Nat)
theorem qgl{a b c d:Nat}(ha:a<256)(hb:b<256)(hc:c<256)(hd:d<256):U32 (zum a b c d):=by unfold zum U32;omega
theorem qgm{a b c d:Nat}(ha:a<256)(hb:b<256)(hc:c<256)(hd:d<256):
 bits .or .u32 (bits .or .u32 (bits .or .u32 (IntKind.u32.wrap (IntKind.u32.wrap (a:Int)*16777216)) (IntKind.u32.wrap (IntKind.u32.wrap (b:Int)*65536))) (IntKind.u32.wrap (IntKind.u32.wrap (c:Int)*256))) (IntKind.u32.wrap (d:Int))=zum a b c d:=by
 have e1:IntKind.u32.wrap (IntKind.u32.wrap (a:Int)*16777216)=((a*16777216:Nat):Int):=by rw[IntKind.wrap_u32',IntKind.wrap_u32'];omega
 have e2:IntKind.u32.wrap (IntKind.u32.wrap (b:Int)*65536)=((b*65536:Nat):Int):=by rw[IntKind.wrap_u32',IntKind.wrap_u32'];omega
 have e3:IntKind.u32.wrap (IntKind.u32.wrap (c:Int)*256)=((c*256:Nat):Int):=by rw[IntKind.wrap_u32',IntKind.wrap_u32'];omega
 have e4:IntKind.u32.wrap (d:Int)=((d:Nat):Int):=by rw[IntKind.wrap_u32'];omega
 have p24:(2:Nat)^24=16777216:=by decide
 have p16:(2:Nat)^16=65536:=by decide
 have p8:(2:Nat)^8=256:=by decide
 have o1:a*16777216 ||| b*65536=(a*256+b)*65536:=by rw[<-p24,zq9 a (b*65536) 24 (by rw[p24];omega),p24,qop,qoq]
 have o2:(a*256+b)*65536 ||| c*256=((a*256+b)*256+c)*256:=by rw[<-p16,zq9 (a*256+b) (c*256) 16 (by rw[p16];omega),p16,qop ((a*256+b)*256),qoq]
 have o3:((a*256+b)*256+c)*256 ||| d=((a*256+b)*256+c)*256+d:=by have:=zq9 ((a*256+b)*256+c) d 8 (by rw[p8];exact hd);rwa[p8] at this
 rw[e1,e2,e3,e4,u32_or_nat _ _ (by omega) (by omega),o1,u32_or_nat _ _ (by omega) (by omega),o2,u32_or_nat _ _ (by omega) (by omega),o3];rfl
def zgl(B:List Nat):List Int:=(List.range 16).map fun k=>zum (B.getD (4*k) 0) (B.getD (4*k+1) 0) (B.getD (4*k+2) 0) (B.getD (4*k+3) 0)
def z2i(l:List Int):Int:=
 IntKind.u32.wrap (IntKind.u32.wrap (IntKind.u32.wrap (l.getD (l.length-16) 0+bits .xor .u32 (bits .xor .u32 (rot (l.getD (l.length-15) 0) 7) (rot (l.getD (l.length-15) 0) 18)) (l.getD (l.length-15) 0/8))+l.getD (l.length-7) 0)
  +bits .xor .u32 (bits .xor .u32 (rot (l.getD (l.length-2) 0) 17) (rot (l.getD (l.length-2) 0) 19)) (l.getD (l.length-2) 0/1024))
def zbr(B:List Nat):Nat->List Int
 |0=>zgl B
 |j+1=>zbr B j++[z2i (zbr B j)]
def zcr(B:List Nat):List Int:=zbr B 48
theorem zlz(B:List Nat)(j:Nat):(zbr B j).length=16+j:=by
 induction j with
 |zero=>simp[zbr,zgl]
 |succ j ih=>simp[zbr,ih];omega
theorem qja(x:Int):U32 (IntKind.u32.wrap x):=by rw[IntKind.wrap_u32'];unfold U32;omega
theorem zz1(B:List Nat)(h8:∀x∈B,x<256)(j:Nat):∀x∈zbr B j,U32 x:=by
 induction j with
 |zero=>
  intro x hx;simp only[zbr,zgl,qmn] at hx;obtain⟨k,_,rfl⟩:=hx;exact qgl (zfj B _ h8) (zfj B _ h8) (zfj B _ h8) (zfj B _ h8)
 |succ j ih=>
  intro x hx;simp only[zbr,qny,qnz] at hx;rcases hx with hx|rfl
  ·exact ih x hx
  ·exact qja _
theorem qfk{l:List Int}{k:Nat}(h:∀x∈l,U32 x):U32 (l.getD k 0):=by
 by_cases hk:k<l.length
 ·rw[qoa,qmm hk]
  exact h _ (qm8 hk)
 ·rw[qoa,qoj (by omega)]
  simp[U32]
def zxt(l:List Int):List Int:=l++List.replicate (64-l.length) 0
theorem zz2{l:List Int}(h:l.length<=64):(zxt l).length=64:=by simp[zxt];omega
theorem zz3{l:List Int}(h:l.length<64)(x:Int):(zxt l).set l.length x=zxt (l++[x]):=by unfold zxt;rw[qor _ _ (qmt _),qos,show 64-l.length=(64-(l++[x]).length)+1 by simp;omega,qot,qou];simp
theorem qbp{l:List Int}{k:Nat}(h:k<l.length):(zxt l).getD k 0=l.getD k 0:=by unfold zxt;rw[qoa,qov h,<-qoa]
theorem z5v{l:List Int}(h:l.length=64):zxt l=l:=by simp[zxt,h]
theorem zxu{B:List Nat}{k:Nat}(h:k<16):(zgl B).take (k+1)=(zgl B).take k++[zum (B.getD (4*k) 0) (B.getD (4*k+1) 0) (B.getD (4*k+2) 0) (B.getD (4*k+3) 0)]:=by
 have hl:(zgl B).length=16:=by simp[zgl]
 rw[zad _ k 0 (by omega)];congr 1
 simp[zgl,h]
abbrev S8:=Int × Int × Int × Int × Int × Int × Int × Int
def zby(s:S8):Array Value:= #[.int .u32 s.1,.int .u32 s.2.1,.int .u32 s.2.2.1,.int .u32 s.2.2.2.1,.int .u32 s.2.2.2.2.1,.int .u32 s.2.2.2.2.2.1,.int .u32 s.2.2.2.2.2.2.1,.int .u32 s.2.2.2.2.2.2.2]
def pI(e f g i k w:Int):Int:=
 IntKind.u32.wrap (IntKind.u32.wrap (IntKind.u32.wrap (IntKind.u32.wrap (i+bits .xor .u32 (bits .xor .u32 (rot e 6) (rot e 11)) (rot e 25))+bits .xor .u32 (bits .and .u32 e f) (bits .and .u32 (bits .xor .u32 (if IntKind.u32.signed=true then-1 else IntKind.u32.max) e) g))+k)+w)
def qI(a b c:Int):Int:=(bits .xor .u32 (bits .xor .u32 (rot a 2) (rot a 13)) (rot a 22)+bits .xor .u32 (bits .xor .u32 (bits .and .u32 a b) (bits .and .u32 a c)) (bits .and .u32 b c))%4294967296
def qgn(k w:Int)(s:S8):S8:=
 match s with
 |(a,b,c,d,e,f,g,i)=>((pI e f g i k w+qI a b c)%4294967296,a,b,c,(d+pI e f g i k w)%4294967296,e,f,g)
def kI:List Int:=[1116352408,1899447441,3049323471,3921009573,961987163,1508970993,2453635748,2870763221,3624381080,310598401,607225278,1426881987,1925078388,2162078206,2614888103,3248222580,3835390401,4022224774,264347078,604807628,770255983,1249150122,1555081692,1996064986,2554220882,2821834349,2952996808,3210313671,3336571891,3584528711,113926993,338241895,666307205,773529912,1294757372,1396182291,1695183700,1986661051,2177026350,2456956037,2730485921,2820302411,3259730800,3345764771,3516065817,3600352804,4094571909,275423344,430227734,506948616,659060556,883997877,958139571,1322822218,1537002063,1747873779,1955562222,2024104815,2227730452,2361852424,2428436474,2756734187,3204031479,3329325298]
def zfc(W:List Int)(s:S8):Nat->S8
 |0=>s
 |t+1=>qgn (kI.getD t 0) (W.getD t 0) (zfc W s t)
def qgo(s r:S8):S8:=((s.1+r.1)%4294967296,(s.2.1+r.2.1)%4294967296,(s.2.2.1+r.2.2.1)%4294967296,(s.2.2.2.1+r.2.2.2.1)%4294967296,(s.2.2.2.2.1+r.2.2.2.2.1)%4294967296,(s.2.2.2.2.2.1+r.2.2.2.2.2.1)%4294967296,(s.2.2.2.2.2.2.1+r.2.2.2.2.2.2.1)%4294967296,(s.2.2.2.2.2.2.2+r.2.2.2.2.2.2.2)%4294967296)
def z2j(s:S8)(B:List Nat):S8:=qgo s (zfc (zcr B) s 64)
def OkS(s:S8):Prop:=U32 s.1/\U32 s.2.1/\U32 s.2.2.1/\U32 s.2.2.2.1/\U32 s.2.2.2.2.1/\U32 s.2.2.2.2.2.1/\U32 s.2.2.2.2.2.2.1/\U32 s.2.2.2.2.2.2.2
theorem zqo(x:Int):U32 (x%4294967296):=by unfold U32;omega
theorem qbq(s:S8)(B:List Nat):OkS (z2j s B):=⟨zqo _,zqo _,zqo _,zqo _,zqo _,zqo _,zqo _,zqo _⟩
theorem z5w{W:List Int}{s:S8}(h:OkS s)(t:Nat):OkS (zfc W s t):=by
 induction t with
 |zero=>exact h
 |succ t ih=>
  obtain⟨h1,h2,h3,h4,h5,h6,h7,h8⟩:=ih;exact⟨zqo _,h1,h2,h3,zqo _,h5,h6,h7⟩
theorem qbr(B:List Nat)(h8:∀x∈B,x<256):∀x∈zcr B,U32 x:=zz1 B h8 48
theorem zra(B:List Nat):(zcr B).length=64:=zlz B 48
def zju:S8:=(1779033703,3144134277,1013904242,2773480762,1359893119,2600822924,528734635,1541459225)
theorem z5x:OkS zju:=by unfold OkS zju U32;simp
def zf4(n:Nat):Nat:=63-(n+8)%64
def qjb(n k:Nat):Nat:=8*n/2^(56-8*k)%256
def zif(n:Nat):List Nat:=(List.range 8).map (qjb n)
def zun(n:Nat):List Nat:=128::(List.replicate (zf4 n) 0++zif n)
theorem znj(n:Nat):(zun n).length=1+zf4 n+8:=by simp[zun,zif];omega
theorem qgp(n:Nat):∀x∈zun n,x<256:=by
 intro x hx;simp only[zun,qof,qny,qow,zif,qmn] at hx;rcases hx with rfl|⟨_,rfl⟩|⟨k,_,rfl⟩
 ·omega
 ·omega
 ·unfold qjb;omega
theorem qbs(n:Nat):(n+(zun n).length)%64=0:=by rw[znj];unfold zf4;omega
def qgq(n:Int):List Nat:=if 0<=n/\n<=2147483647 then zun n.toNat else []
end Go.Hm
namespace Go.Proofs.Y
open Go.RowKit Go.Hm
def Cur(w:World)(g:Nat)(l:List Nat)(bad:Bool):Prop:=
 ∃A c,Blk w g 180 #[.slice A l.length c,.bool bad]/\l.length<=c/\c<=maxLen/\TR w 5 A l.length (zan .u8 l)/\(∀x∈l,x<256)/\(bad=true->l=[])
section
variable{w w':World}{g:Nat}{l:List Nat}{bad:Bool}
theorem Cur.lt(h:Cur w g l bad):g<w.heap.size:=by obtain⟨A,c,h1,_⟩:=h;exact h1.lt
theorem Cur.len(h:Cur w g l bad):l.length<=maxLen:=by obtain⟨A,c,_,h1,h2,_⟩:=h;omega
theorem Cur.below(h:Cur w g l bad)(hb:Below w.heap.size w w'):Cur w' g l bad:=by obtain⟨A,c,h1,h2,h3,h4,h5,h6⟩:=h;exact⟨A,c,h1.below hb h1.lt,h2,h3,h4.below hb,h5,h6⟩
theorem Cur.keep{g':Nat}{t:TypeId}{cs:Array Value}(h:Cur w g l bad)(hg:w.grownBy w' (some g'))(hT:Blk w g' t cs)(hne:g≠g')(ht:5≠t):Cur w' g l bad:=by obtain⟨A,c,h1,h2,h3,h4,h5,h6⟩:=h;exact⟨A,c,h1.grown hg (by simpa using hne),h2,h3,h4.keep hg hT ht,h5,h6⟩
theorem Cur.blk(h:Cur w g l bad):∃cs,Blk w g 180 cs:=by obtain⟨A,c,h1,_⟩:=h;exact⟨_,h1⟩
end
def zdb(e0:Ending)(g:Nat)(l:List Nat)(bad:Bool)(w:World)(e:Ending)(w':World):Prop:=e=e0/\Cur w' g l bad/\w.grownBy w' (some g)
theorem zqs{w:World}{g i j:Nat}{x y:Value}:w.grownBy ((w.setCell ⟨g,i,none⟩ x).setCell ⟨g,j,none⟩ y) (some g):=
 ⟨rfl,rfl,rfl,by simp[World.setCell],fun k _ hne=>(Below.heap_setCell _ _ _ _ (by intro e;exact hne (by rw[e]))).trans (Below.heap_setCell _ _ _ _ (by intro e;exact hne (by rw[e])))⟩
theorem zb9{w:World}{g i:Nat}{x:Value}:w.grownBy (w.setCell ⟨g,i,none⟩ x) (some g):=
 ⟨rfl,rfl,rfl,by simp[World.setCell],fun k _ hne=>Below.heap_setCell _ _ _ _ (by intro e;exact hne (by rw[e]))⟩
theorem zht{w:World}{g:Nat}{l:List Nat}{bad:Bool}(h:Cur w g l bad):
 Calls Tryz.prog 116 #[.pointer (some ⟨g,0,none⟩)] w (zdb (.returned (.tuple #[])) g [] true w):=by
 obtain⟨A,c,h1,h2,h3,h4,h5,h6⟩:=h;have c0:=h1.cell 0;have c1:=h1.cell 1;have f0:=h1.frozen 0;have f1:=h1.frozen 1;simp at c0 c1;have H1:=Hz h1;clear h1;go_enter Tryz.func116,Tryz.ntmps116
 go_wp2
 go_end0
 refine⟨rfl,⟨none,0,?_,by simp,by simp[maxLen],TR.nil_,by simp,by simp⟩,zqs⟩;simpa using(H1.out.set_ 0 (.slice none 0 0)).set_ 1 (.bool true)
def zsu(l:List Nat)(w:World)(e:Ending)(w':World):Prop:=e= .returned (.int .i64 (l.length:Int))/\w=w'
def zsv(b:Bool)(w:World)(e:Ending)(w':World):Prop:=e= .returned (.bool b)/\w=w'
theorem qci{w:World}{g:Nat}{l:List Nat}{bad:Bool}(h:Cur w g l bad):Calls Tryz.prog 168 #[.pointer (some ⟨g,0,none⟩)] w (zsu l w):=by
 obtain⟨A,c,h1,h2,h3,h4,h5,h6⟩:=h;have c0:=h1.cell 0;simp at c0;clear h1 h4 h5 h6;go_enter Tryz.func168,Tryz.ntmps168
 go_wp2
 go_ret
 exact⟨rfl,rfl⟩
theorem zj7{w:World}{g:Nat}{l:List Nat}{bad:Bool}(h:Cur w g l bad):Calls Tryz.prog 98 #[.pointer (some ⟨g,0,none⟩)] w (zsv bad w):=by
 obtain⟨A,c,h1,h2,h3,h4,h5,h6⟩:=h;have c1:=h1.cell 1;simp at c1;clear h1 h4 h5 h6;go_enter Tryz.func98,Tryz.ntmps98
 go_wp2
 go_ret
 exact⟨rfl,rfl⟩
theorem qg9{w:World}{g:Nat}{l:List Nat}{bad:Bool}(h:Cur w g l bad):Calls Tryz.prog 100 #[.pointer (some ⟨g,0,none⟩)] w (zsv (!bad&&l.isEmpty) w):=by
 obtain⟨A,c,h1,h2,h3,h4,h5,h6⟩:=h;have c0:=h1.cell 0;have c1:=h1.cell 1;simp at c0 c1;clear h1 h4 h5 h6;cases bad
 ·go_enter Tryz.func100,Tryz.ntmps100
  go_wp2
  go_ret
  refine⟨?_,rfl⟩;cases l<;> simp;omega
 ·go_enter Tryz.func100,Tryz.ntmps100
  go_wp2
  go_ret
  exact⟨rfl,rfl⟩
def zkv(g:Nat)(l:List Nat)(n:Nat)(w:World)(e:Ending)(w':World):Prop:=
 ∃A c,e= .returned (.slice A n c)/\TR w' 5 A n (zan .u8 (l.take n))/\Cur w' g (l.drop n) false/\w.grownBy w' (some g)
theorem qcj{w:World}{g:Nat}{l:List Nat}{n c:Nat}{A A':Option Addr}(h1:Blk w g 180 #[.slice A l.length c,.bool false])(h2:l.length<=c)(h3:c<=maxLen)(h4:TR w 5 A l.length (zan .u8 l))(h5:∀x∈l,x<256)(hn:n<=l.length)
 (hA:A'=if c=n then A else A.map (·.add n)):zkv g l n w (.returned (.slice A n c)) (w.setCell ⟨g,0,none⟩ (.slice A' (l.length-n) (c-n))):=by
 have hg:w.grownBy (w.setCell ⟨g,0,none⟩ (.slice A' (l.length-n) (c-n))) (some g):=zb9;have ht:=h4.take hn;rw[zem] at ht;have hc:=h4.cut hn h2;rw[zd4,<-hA] at hc;refine⟨A,c,rfl,ht.keep hg h1 (by decide),⟨A',c-n,?_,by rw[qmp];omega,by omega,?_,fun x hx=>h5 x (qpa hx),by simp⟩,hg⟩
 ·rw[qmp]
  simpa using h1.set_ 0 (.slice A' (l.length-n) (c-n))
 ·rw[qmp]
  exact hc.keep hg h1 (by decide)
theorem zkw{w:World}{g:Nat}{l:List Nat}{n:Nat}(h:Cur w g l false)(hn:n<=l.length):Calls Tryz.prog 135 #[.pointer (some ⟨g,0,none⟩),.int .i64 (n:Int)] w (zkv g l n w):=by
 obtain⟨A,c,h1,h2,h3,h4,h5,_⟩:=h;have c0:=h1.cell 0;have c1:=h1.cell 1;have f0:=h1.frozen 0;simp at c0 c1;have F:=Hz (qcj (A':=if c=n then A else A.map (·.add n)) h1 h2 h3 h4 h5 hn rfl);clear h1 h4 h5;have h3':=h3;unfold maxLen at h3';by_cases hcn:c=n
 ·subst hcn
  go_enter Tryz.func135,Tryz.ntmps135
  go_wp2
  all_goals first|(exfalso;omega)|go_ret
  have F':=F.out;rw[show l.length-c=0 by omega,qos] at F';simpa using F'
 ·have Hcn:=Hz hcn
  clear hcn;go_enter Tryz.func135,Tryz.ntmps135
  go_wp2
  all_goals first|(exfalso;have:=Hcn.out;omega)|go_ret
  have F':=F.out;rw[if_neg Hcn.out] at F';exact F'
theorem zsw{w:World}{g:Nat}{l:List Nat}{bad:Bool}{n:Int}(h:Cur w g l bad)(hn:bad=true\/n<0\/(l.length:Int)<n)(h1: -9223372036854775808<=n)(h2:n<=9223372036854775807):
 Calls Tryz.prog 135 #[.pointer (some ⟨g,0,none⟩),.int .i64 n] w (zdb (.returned (.slice none 0 0)) g [] true w):=by
 have hF:=zht h;have HF:=Hz hF;clear hF;obtain⟨A,c,b1,_,_,_,_,_⟩:=h;have c0:=b1.cell 0;have c1:=b1.cell 1;simp at c0 c1;clear b1;cases bad
 ·by_cases hn0:n<0
  ·clear hn
   go_enter Tryz.func135,Tryz.ntmps135
   go_wp2_with (go_at_call 116;refine HF.out.mono ?_;rintro e w' ⟨rfl,k1,k2⟩)
   go_ret
   exact⟨rfl,k1,k2⟩
  ·have hn1:(l.length:Int)<n:=by rcases hn with hn|hn|hn<;> first|cases hn|omega
   clear hn;have hn0':0<=n:=by omega
   clear hn0;go_enter Tryz.func135,Tryz.ntmps135
   go_wp2_with (go_at_call 116;refine HF.out.mono ?_;rintro e w' ⟨rfl,k1,k2⟩)
   go_ret
   exact⟨rfl,k1,k2⟩
 ·clear hn
  go_enter Tryz.func135,Tryz.ntmps135
  go_wp2_with (go_at_call 116;refine HF.out.mono ?_;rintro e w' ⟨rfl,k1,k2⟩)
  go_ret
  exact⟨rfl,k1,k2⟩
def z6v(l:List Nat)(w:World)(e:Ending)(w':World):Prop:=
 ∃A n c,e= .returned (.slice A n c)/\Own w' w.heap.size 5 (.slice A n c) (zan .u8 l)/\Below w.heap.size w w'
theorem zg8{w:World}{A:Option Addr}{n c:Nat}{l:List Nat}(h:Reads w w.heap.size 1 A n (zan .u8 l))(hl:n<=140737488355328):
 Calls Tryz.prog 42 #[.slice A n c] w (z6v l w):=by
 obtain rfl:=h.len;rcases A with _|ad
 ·have hl0:l.length=0:=by
   rcases qm9 l.length with h0|h0
   ·exact h0
   ·obtain⟨ad,h',_⟩:=h.2 h0
    cases h'
  obtain rfl:l=[]:=qna hl0;have hq:=fun W:World=>Lib.run_eql_slice_nil (P:=Tryz.prog) W 24 5 none 0 c 0 0 elB.ht
  go_enter Tryz.func42,Tryz.ntmps42
  go_wp2
  go_ret
  exact⟨none,0,0,rfl,Own.nil_,Below.refl _ _⟩
 ·have hq:=fun W:World=>Lib.run_eql_slice_nil (P:=Tryz.prog) W 24 5 (some ad) l.length c 0 0 elB.ht
  go_enter Tryz.func42,Tryz.ntmps42
  go_wp2_with (first
   |(refine zam elB rfl (.tmp 5) (.tmp 6) rfl (W:=w) (B:=w.heap.size) (k:= .u8) (l:=[]) (l2:=l) (c2:=c) (Own.empty _ _) ((h.alloc (qmt _) _).more (by simp)) rfl rfl ((Below.refl _ _).alloc (qmt _) _) (qmt _) (by simp) (by omega) (by simp only[maxLen];omega) ?_
     simp only[qnl,qnk];intro A' c' w' k1 k2 k3 k4 k5 k6))
  go_ret
  exact⟨A',_,c',rfl,k3,k5⟩
def qck(l:List Nat)(w:World)(e:Ending)(w':World):Prop:=
 ∃g,e= .returned (.pointer (some ⟨g,0,none⟩))/\w.heap.size<=g/\Cur w' g l false/\Below w.heap.size w w'
theorem zsx{w:World}{A:Option Addr}{n c:Nat}{l:List Nat}(h:Reads w w.heap.size 1 A n (zan .u8 l))(hl:n<=140737488355328)(h8:∀x∈l,x<256):
 Calls Tryz.prog 94 #[.slice A n c] w (qck l w):=by
 obtain rfl:=h.len;go_enter Tryz.func94,Tryz.ntmps94
 go_wp2_with (go_at_call 42;refine(zg8 h hl).mono ?_;rintro e w1 ⟨A',n',c',rfl,k1,k2⟩)
 go_ret
 have hc:=k1.cap;obtain rfl:n'=l.length:=by have:=k1.len;rwa[zaa] at this
 exact⟨_,rfl,k2.size,⟨A',c',Blk.new _ _ _,by omega,by omega,(TR.of_own k1).alloc _,h8,by simp⟩,k2.alloc k2.size _⟩
def qcl(g:Nat)(l:List Nat)(n:Nat)(w:World)(e:Ending)(w':World):Prop:=
 ∃A c,e= .returned (.slice A n c)/\Own w' w.heap.size 5 (.slice A n c) (zan .u8 (l.take n))/\Cur w' g (l.drop n) false/\w.grownBy w' (some g)
theorem zhu{w w1 w2:World}{row:Option Nat}(h:w.grownBy w1 row)(hb:Below w1.heap.size w1 w2):w.grownBy w2 row:=
 ⟨hb.os.trans h.os,hb.tape.trans h.tape,hb.output.trans h.output,qml h.size hb.size,fun k hk hne=>(hb.block k (qmo hk h.size)).trans (h.block k hk hne)⟩
theorem z6w{w:World}{g:Nat}{l:List Nat}{n:Nat}(h:Cur w g l false)(hn:n<=l.length)(hs:n<=140737488355328):
 Calls Tryz.prog 136 #[.pointer (some ⟨g,0,none⟩),.int .i64 (n:Int)] w (qcl g l n w):=by
 have hlt:(l.take n).length=n:=by rw[qmq];omega
 go_enter Tryz.func136,Tryz.ntmps136
 go_wp2_with (first
  |(go_at_call 135;refine(zkw h hn).mono ?_;rintro e w1 ⟨A',c',rfl,k1,k2,k3⟩
    have k4:=k1.1;have C:=Hz (zg8 (c:=c') k4 hs);have hg:=k3.size)
  |(go_at_call 42;refine C.out.mono ?_;rintro e w2 ⟨A2,n2,c2,rfl,k5,k6⟩))
 go_ret
 obtain rfl:n2=n:=by have:=k5.len;rwa[zaa,hlt] at this
 exact⟨A2,c2,rfl,k5.base_le hg,k2.below k6,zhu k3 k6⟩
theorem qcm{w:World}{g:Nat}{l:List Nat}{bad:Bool}{n:Int}(h:Cur w g l bad)(hn:bad=true\/n<0\/(l.length:Int)<n)(h1: -9223372036854775808<=n)(h2:n<=9223372036854775807):
 Calls Tryz.prog 136 #[.pointer (some ⟨g,0,none⟩),.int .i64 n] w (zdb (.returned (.slice none 0 0)) g [] true w):=by
 have HN:=Hz (zsw h hn h1 h2);clear hn h1 h2;have hq:=fun W:World=>Lib.run_eql_slice_nil (P:=Tryz.prog) W 24 5 none 0 0 0 0 elB.ht
 go_enter Tryz.func136,Tryz.ntmps136
 go_wp2_with (first
  |(go_at_call 135;refine HN.out.mono ?_;rintro e w1 ⟨rfl,k1,k2⟩)
  |(go_at_call 42;go_in))
 go_ret
 exact⟨rfl,k1,k2⟩
end Go.Proofs.Y
namespace Go.Hm
open Go Go.RowKit
theorem zaz{w:World}{g i:Nat}{x:Value}:w.grownBy (w.setCell ⟨g,i,none⟩ x) (some g):=
 ⟨rfl,rfl,rfl,by simp[World.setCell],fun k _ hne=>Below.heap_setCell _ _ _ _ (fun e=>hne (by rw[e]))⟩
variable{P:Program}
theorem zk7{ops:Array Oper}{rest:List Oper}{op:Oper}{a:Act}{w:World}{Q:Exit->Act->World->Prop}(hgd:op.guard=none)(ty:TypeId)(x y:Operand)(ho:op.op= .store ty x y)
 (g o:Nat){v0 v1 v2 v3 v4:Value}(hx:a.eval x= .pointer (some ⟨g,o,none⟩))(hy:a.eval y= .agg #[v0,v1,v2,v3,v4]){t:TypeId}{cs:Array Value}(hB:Blk w g t cs)(hsz:o+5<=cs.size)
 (hi:(P.info? ty).map (·.size)=some 5)(h1:(#[v0,v1,v2,v3,v4]:Array Value).all (·.oneCell')=true)
 (h:∀W,Blk W g t (((((cs.setIfInBounds o v0).setIfInBounds (o+1) v1).setIfInBounds (o+1+1) v2).setIfInBounds (o+1+1+1) v3).setIfInBounds (o+1+1+1+1) v4)->
  (∀B w0,Below B w0 w->B<=g->Below B w0 W)->(∀g' t' cs',g'≠g->Blk w g' t' cs'->Blk W g' t' cs')->wpList P ops Q rest (a.put op.dst undef) W):wpList P ops Q (op::rest) a w:=by
 have ht:w.there g o (#[v0,v1,v2,v3,v4]:Array Value).size:=by intro j hj;have hj:j<5:=hj;refine⟨?_,hB.frozen _⟩;rw[hB.cell,qqh (by omega)];rfl
 refine wpList_store_mid hgd ty x y ho g o #[v0,v1,v2,v3,v4] hx hy ht hi h1 ?_;refine h _ (((((hB.set_ o v0).set_ (o+1) v1).set_ (o+1+1) v2).set_ (o+1+1+1) v3).set_ (o+1+1+1+1) v4) (fun B w0 hb hg=>?_) (fun g' t' cs' hne k=>?_)
 ·exact((((hb.setCell (p:=⟨g,o,none⟩) hg v0).setCell (p:=⟨g,o+1,none⟩) hg v1).setCell (p:=⟨g,o+1+1,none⟩) hg v2).setCell (p:=⟨g,o+1+1+1,none⟩) hg v3).setCell (p:=⟨g,o+1+1+1+1,none⟩) hg v4
 ·exact((((k.far (p:=⟨g,o,none⟩) hne v0).far (p:=⟨g,o+1,none⟩) hne v1).far (p:=⟨g,o+1+1,none⟩) hne v2).far (p:=⟨g,o+1+1+1,none⟩) hne v3).far (p:=⟨g,o+1+1+1+1,none⟩) hne v4
theorem zhw{ops:Array Oper}{rest:List Oper}{o:Oper}{a:Act}{w:World}{Q:Exit->Act->World->Prop}(hgd:o.guard=none)(ty:TypeId)(x y:Operand)(ho:o.op= .store ty x y)
 (g:Nat)(cells:Array Value)(hx:a.eval x= .pointer (some ⟨g,0,none⟩))(hy:a.eval y= .agg cells){t:TypeId}{old:Array Value}(hB:Blk w g t old)(hi:(P.info? ty).map (·.size)=some cells.size)
 (hold:old.size=cells.size)(h1:cells.all (·.oneCell')=true)
 (h:∀W,Blk W g t cells->(∀B w0,Below B w0 w->B<=g->Below B w0 W)->(∀g' t' cs',g'≠g->Blk w g' t' cs'->Blk W g' t' cs')->wpList P ops Q rest (a.put o.dst undef) W):wpList P ops Q (o::rest) a w:=by
 refine wpList_store_row hgd ty x y ho g cells hx hy t old hB hi hold h1 ?_;have hfar:∀k,k≠g->(w.setRow g cells).heap[k]? =w.heap[k]? :=fun k hne=>by simp[World.setRow,Array.getElem?_modify];intro e;exact absurd e.symm hne
 refine h _ ?_ (fun B w0 hb hg=>⟨hb.os,hb.tape,hb.output,by simpa[World.setRow] using hb.size,fun k hk=>?_⟩) (fun g' t' cs' hne k=>(hfar g' hne).trans k)
 ·unfold Blk at hB⊢
  simp[World.setRow,Array.getElem?_modify,hB]
 ·rw[hfar k (by omega)]
  exact hb.block k hk
theorem z7d{o:Oper}{a:Act}{w:World}{K:Act->World->Prop}{Q:Exit->Act->World->Prop}(ty:TypeId)(x y:Operand)(ho:o.op= .store ty x y)
 (g:Nat)(cells:Array Value)(hx:a.eval x= .pointer (some ⟨g,0,none⟩))(hy:a.eval y= .agg cells){t:TypeId}{old:Array Value}(hB:Blk w g t old)(hi:(P.info? ty).map (·.size)=some cells.size)
 (hold:old.size=cells.size)(h1:cells.all (·.oneCell')=true)
 (h:∀W,Blk W g t cells->(∀B w0,Below B w0 w->B<=g->Below B w0 W)->(∀g' t' cs',g'≠g->Blk w g' t' cs'->Blk W g' t' cs')->K (a.put o.dst undef) W):o.wp P a w K Q:=by
 refine wp_store_row ty x y ho g cells hx hy t old hB hi hold h1 ?_;have hfar:∀k,k≠g->(w.setRow g cells).heap[k]? =w.heap[k]? :=fun k hne=>by simp[World.setRow,Array.getElem?_modify];intro e;exact absurd e.symm hne
 refine h _ ?_ (fun B w0 hb hg=>⟨hb.os,hb.tape,hb.output,by simpa[World.setRow] using hb.size,fun k hk=>?_⟩) (fun g' t' cs' hne k=>(hfar g' hne).trans k)
 ·unfold Blk at hB⊢
  simp[World.setRow,Array.getElem?_modify,hB]
 ·rw[hfar k (by omega)]
  exact hb.block k hk
theorem za9{w:World}{g:Nat}{ty:TypeId}{a0 a1 a2 a3 a4 a5 a6 a7 a8 a9 aa ab:Value}(h:Blk w g ty #[a0,a1,a2,a3,a4,a5,a6,a7,a8,a9,aa,ab]):
 w.cell? ⟨g,0,none⟩=some a0/\w.cell? ⟨g,1,none⟩=some a1/\w.cell? ⟨g,2,none⟩=some a2/\w.cell? ⟨g,3,none⟩=some a3/\w.cell? ⟨g,4,none⟩=some a4/\w.cell? ⟨g,5,none⟩=some a5
  /\w.cell? ⟨g,6,none⟩=some a6/\w.cell? ⟨g,7,none⟩=some a7/\w.cell? ⟨g,8,none⟩=some a8/\w.cell? ⟨g,9,none⟩=some a9/\w.cell? ⟨g,10,none⟩=some aa/\w.cell? ⟨g,11,none⟩=some ab:=by
 have h0:=h.cell 0;have h1:=h.cell 1;have h2:=h.cell 2;have h3:=h.cell 3;have h4:=h.cell 4;have h5:=h.cell 5;have h6:=h.cell 6;have h7:=h.cell 7;have h8:=h.cell 8;have h9:=h.cell 9;have h10:=h.cell 10;have h11:=h.cell 11;simp at h0 h1 h2 h3 h4 h5 h6 h7 h8 h9 h10 h11;exact⟨h0,h1,h2,h3,h4,h5,h6,h7,h8,h9,h10,h11⟩
theorem zah{ops:Array Oper}{rest:List Oper}{o:Oper}{a:Act}{w:World}{Q:Exit->Act->World->Prop}(hgd:o.guard=none)(ty:TypeId)(x y:Operand)(ho:o.op= .store ty x y)
 (g:Nat)(cells:Array Value)(hx:a.eval x= .pointer (some ⟨g,0,none⟩))(hy:a.eval y= .agg cells){t:TypeId}{old:Array Value}(hB:Blk w g t old)(hi:(P.info? ty).map (·.size)=some cells.size)
 (hold:old.size=cells.size)(h1:cells.all (·.oneCell')=true)
 (h:∀W,Blk W g t cells->w.grownBy W (some g)->wpList P ops Q rest (a.put o.dst undef) W):wpList P ops Q (o::rest) a w:=by
 refine wpList_store_row hgd ty x y ho g cells hx hy t old hB hi hold h1 ?_;refine h _ ?_ ⟨rfl,rfl,rfl,by simp[World.setRow],fun k _ hne=>?_⟩
 ·unfold Blk at hB⊢
  simp[World.setRow,Array.getElem?_modify,hB]
 ·simp[World.setRow,Array.getElem?_modify]
  intro e;exact absurd (by rw[e]) hne
theorem zrk{w w':World}{row:Option Nat}(h:w.grownBy w' row):Below 0 w w':=⟨h.os,h.tape,h.output,h.size,fun k hk=>by omega⟩
theorem zf9{w w3 W:World}{g:Nat}{row:Option Nat}(G:w.grownBy w3 (some g))(k:w3.grownBy W row)(hb:∀b,row=some b->w.heap.size<=b):w.grownBy W (some g):=
 ⟨k.os.trans G.os,k.tape.trans G.tape,k.output.trans G.output,qml G.size k.size,fun i hi hne=>(k.block i (qmo hi G.size) (fun e=>by have:=hb i e.symm;omega)).trans (G.block i hi hne)⟩
theorem zbc{w w3 W:World}{g b:Nat}(G:w.grownBy w3 (some g))(k:w3.grownBy W (some b))(hb:w.heap.size<=b):w.grownBy W (some g):=
 ⟨k.os.trans G.os,k.tape.trans G.tape,k.output.trans G.output,qml G.size k.size,fun i hi hne=>(k.block i (qmo hi G.size) (fun e=>by injection e with e;omega)).trans (G.block i hi hne)⟩
theorem zjx{ops:Array Oper}{rest:List Oper}{op:Oper}{a:Act}{w:World}{Q:Exit->Act->World->Prop}(hgd:op.guard=none)(ty:TypeId)(x y:Operand)(ho:op.op= .store ty x y)
 (g o:Nat){v0 v1 v2 v3 v4:Value}(hx:a.eval x= .pointer (some ⟨g,o,none⟩))(hy:a.eval y= .agg #[v0,v1,v2,v3,v4]){t:TypeId}{cs:Array Value}(hB:Blk w g t cs)(hsz:o+5<=cs.size)
 (hi:(P.info? ty).map (·.size)=some 5)(h1:(#[v0,v1,v2,v3,v4]:Array Value).all (·.oneCell')=true)
 (h:∀W,Blk W g t (((((cs.setIfInBounds o v0).setIfInBounds (o+1) v1).setIfInBounds (o+1+1) v2).setIfInBounds (o+1+1+1) v3).setIfInBounds (o+1+1+1+1) v4)->
  w.grownBy W (some g)->wpList P ops Q rest (a.put op.dst undef) W):wpList P ops Q (op::rest) a w:=by
 have ht:w.there g o (#[v0,v1,v2,v3,v4]:Array Value).size:=by intro j hj;have hj:j<5:=hj;refine⟨?_,hB.frozen _⟩;rw[hB.cell,qqh (by omega)];rfl
 refine wpList_store_mid hgd ty x y ho g o #[v0,v1,v2,v3,v4] hx hy ht hi h1 ?_;exact h _ (((((hB.set_ o v0).set_ (o+1) v1).set_ (o+1+1) v2).set_ (o+1+1+1) v3).set_ (o+1+1+1+1) v4)
  (((((zaz (w:=w) (g:=g) (i:=o) (x:=v0)).trans zaz).trans zaz).trans zaz).trans zaz)
end Go.Hm
