import Derived.BigQuiet
import Derived.Test.YtbahbnbpmfgimaaGreatDoorBun3
set_option maxHeartbeats 2000000
set_option maxRecDepth 100000
namespace Go.Proofs.Y
open Go.RowKit Go.Hm
theorem qa0:Tryz.prog.underlying 9=some .string:=by kernel_rfl
theorem elS:ElT Tryz.prog 236 9 (.string ⟨#[]⟩) 1 16:=⟨by kernel_rfl,by kernel_rfl,rfl,by omega⟩
def DrewPost(v:Value)(w:World)(e:Ending)(w':World):Prop:=e= .returned v/\ ∃k,w'=w.drewN k
def zak(v:Value)(w:World)(e:Ending)(w':World):Prop:=e= .returned v/\New w w'
def zcv(v:Value)(w:World)(e:Ending)(w':World):Prop:=e= .returned v/\w=w'
theorem DrewPost.new{v:Value}{w w':World}{e:Ending}(h:DrewPost v w e w'):zak v w e w':=by obtain⟨h1,k,rfl⟩:=h;exact⟨h1,zha w k⟩
def OptB(o:Option (List Nat))(w:World)(e:Ending)(w':World):Prop:=
 match o with
 |none=>e= .returned (.tuple #[.slice none 0 0,.bool false])/\Below w.heap.size w w'
 |some l=>∃A n c,e= .returned (.tuple #[.slice A n c,.bool true])/\Own w' w.heap.size 5 (.slice A n c) (zah .u8 l)/\Below w.heap.size w w'
theorem OptB.u{o:Option (List Nat)}{w w':World}{e:Ending}(h:OptB o w e w'):
 ∃A n c,e= .returned (.tuple #[.slice A n c,.bool o.isSome])/\Own w' w.heap.size 5 (.slice A n c) (zah .u8 (o.getD []))/\Below w.heap.size w w':=by
 cases o with
 |none=>exact⟨none,0,0,h.1,qru,h.2⟩
 |some l=>exact h
def OptW(o:Option (List Nat))(w:World)(e:Ending)(w':World):Prop:=
 match o with
 |none=>e= .returned (.tuple #[.slice none 0 0,.bool false])/\Below w.heap.size w w'
 |some l=>∃A n c,e= .returned (.tuple #[.slice A n c,.bool true])/\Own w' w.heap.size 138 (.slice A n c) (zah .u64 l)/\Below w.heap.size w w'
theorem OptW.u{o:Option (List Nat)}{w w':World}{e:Ending}(h:OptW o w e w'):
 ∃A n c,e= .returned (.tuple #[.slice A n c,.bool o.isSome])/\Own w' w.heap.size 138 (.slice A n c) (zah .u64 (o.getD []))/\Below w.heap.size w w':=by
 cases o with
 |none=>exact⟨none,0,0,h.1,qru,h.2⟩
 |some l=>exact h
def OptT(o:Option (List (List Nat)))(w:World)(e:Ending)(w':World):Prop:=
 match o with
 |none=>e= .returned (.tuple #[.slice none 0 0,.bool false])/\Below w.heap.size w w'
 |some l=>∃A n c,e= .returned (.tuple #[.slice A n c,.bool true])/\Own w' w.heap.size 9 (.slice A n c) (zre l)/\Below w.heap.size w w'
theorem OptT.u{o:Option (List (List Nat))}{w w':World}{e:Ending}(h:OptT o w e w'):
 ∃A n c,e= .returned (.tuple #[.slice A n c,.bool o.isSome])/\Own w' w.heap.size 9 (.slice A n c) (zre (o.getD []))/\Below w.heap.size w w':=by
 cases o with
 |none=>exact⟨none,0,0,h.1,qru,h.2⟩
 |some l=>exact h
end Go.Proofs.Y
namespace Go.Hm
open Go Go.RowKit
def U32(x:Int):Prop:=0<=x/\x<4294967296
def rot(x:Int)(n:Nat):Int:=(x/2^n+x*2^(32-n)%4294967296)%4294967296
theorem z5b{n:Nat}(hn:n<=32):2^n*2^(32-n)=4294967296:=by rw[<-qnz,show n+(32-n)=32 by omega]
theorem qig{x:Int}{n:Nat}(hx:U32 x)(h2:n<=31):bits .or .u32 (x/2^n) (x*2^(32-n)%4294967296)=rot x n:=by
 obtain⟨h0,h3⟩:=hx;obtain⟨X,rfl⟩:=qn1 h0;have hX:X<4294967296:=by omega
 have hp:=z5b (show n<=32 by omega);have hm:X*2^(32-n)%4294967296=(X%2^n)*2^(32-n):=by rw[<-hp,Nat.mul_mod_mul_right]
 have hd:X/2^n<2^(32-n):=qm7 (by rw[hp];exact hX);have hp1:=qnv n;have hr:X%2^n<2^n:=qnf _ hp1;have hs:X/2^n+(X%2^n)*2^(32-n)<4294967296:=by have h4:(X%2^n+1)*2^(32-n)<=2^n*2^(32-n):=ql4 _ hr;rw[hp,qn2] at h4;omega
 have e1:((X:Int)/2^n)=((X/2^n:Nat):Int):=by simp
 have e2:((X:Int)*2^(32-n)%4294967296)=((X*2^(32-n)%4294967296:Nat):Int):=by simp
 unfold rot;rw[e1,e2,hm,u32_or_nat _ _ (by generalize X%2^n*2^(32-n)=b at*;omega) (by generalize X/2^n=a at*;omega),qnk,zrf _ _ _ hd];clear e1 e2 hm hd hr hp;generalize X/2^n=a at*;generalize X%2^n*2^(32-n)=b at*;omega
def zqu(a b c d:Nat):Int:=(((a*256+b)*256+c)*256+d:Nat)
theorem qfx{a b c d:Nat}(ha:a<256)(hb:b<256)(hc:c<256)(hd:d<256):U32 (zqu a b c d):=by unfold zqu U32;omega
theorem qfy{a b c d:Nat}(ha:a<256)(hb:b<256)(hc:c<256)(hd:d<256):
 bits .or .u32 (bits .or .u32 (bits .or .u32 (IntKind.u32.wrap (IntKind.u32.wrap (a:Int)*16777216)) (IntKind.u32.wrap (IntKind.u32.wrap (b:Int)*65536))) (IntKind.u32.wrap (IntKind.u32.wrap (c:Int)*256))) (IntKind.u32.wrap (d:Int))=zqu a b c d:=by
 have e1:IntKind.u32.wrap (IntKind.u32.wrap (a:Int)*16777216)=((a*16777216:Nat):Int):=by rw[qrk,qrk];omega
 have e2:IntKind.u32.wrap (IntKind.u32.wrap (b:Int)*65536)=((b*65536:Nat):Int):=by rw[qrk,qrk];omega
 have e3:IntKind.u32.wrap (IntKind.u32.wrap (c:Int)*256)=((c*256:Nat):Int):=by rw[qrk,qrk];omega
 have e4:IntKind.u32.wrap (d:Int)=((d:Nat):Int):=by rw[qrk];omega
 have p24:(2:Nat)^24=16777216:=by decide
 have p16:(2:Nat)^16=65536:=by decide
 have p8:(2:Nat)^8=256:=by decide
 have o1:a*16777216 ||| b*65536=(a*256+b)*65536:=by rw[<-p24,zrf a (b*65536) 24 (by rw[p24];omega),p24,qn3,qn4]
 have o2:(a*256+b)*65536 ||| c*256=((a*256+b)*256+c)*256:=by rw[<-p16,zrf (a*256+b) (c*256) 16 (by rw[p16];omega),p16,qn3 ((a*256+b)*256),qn4]
 have o3:((a*256+b)*256+c)*256 ||| d=((a*256+b)*256+c)*256+d:=by have:=zrf ((a*256+b)*256+c) d 8 (by rw[p8];exact hd);rwa[p8] at this
 rw[e1,e2,e3,e4,u32_or_nat _ _ (by omega) (by omega),o1,u32_or_nat _ _ (by omega) (by omega),o2,u32_or_nat _ _ (by omega) (by omega),o3];rfl
def zdh(B:List Nat):List Int:=(List.range 16).map fun k=>zqu (B.getD (4*k) 0) (B.getD (4*k+1) 0) (B.getD (4*k+2) 0) (B.getD (4*k+3) 0)
def zop(l:List Int):Int:=
 IntKind.u32.wrap (IntKind.u32.wrap (IntKind.u32.wrap (l.getD (l.length-16) 0+bits .xor .u32 (bits .xor .u32 (rot (l.getD (l.length-15) 0) 7) (rot (l.getD (l.length-15) 0) 18)) (l.getD (l.length-15) 0/8))+l.getD (l.length-7) 0)
  +bits .xor .u32 (bits .xor .u32 (rot (l.getD (l.length-2) 0) 17) (rot (l.getD (l.length-2) 0) 19)) (l.getD (l.length-2) 0/1024))
def zay(B:List Nat):Nat->List Int
 |0=>zdh B
 |j+1=>zay B j++[zop (zay B j)]
def zbk(B:List Nat):List Int:=zay B 48
theorem zhb(B:List Nat)(j:Nat):(zay B j).length=16+j:=by
 induction j with
 |zero=>simp[zay,zdh]
 |succ j ih=>simp[zay,ih];omega
theorem qih(x:Int):U32 (IntKind.u32.wrap x):=by rw[qrk];unfold U32;omega
theorem zzp(B:List Nat)(h8:∀x∈B,x<256)(j:Nat):∀x∈zay B j,U32 x:=by
 induction j with
 |zero=>
  intro x hx;simp only[zay,zdh,qly] at hx;obtain⟨k,_,rfl⟩:=hx;exact qfx (ze3 B _ h8) (ze3 B _ h8) (ze3 B _ h8) (ze3 B _ h8)
 |succ j ih=>
  intro x hx;simp only[zay,qnd,qne] at hx;rcases hx with hx|rfl
  ·exact ih x hx
  ·exact qih _
theorem qez{l:List Int}{k:Nat}(h:∀x∈l,U32 x):U32 (l.getD k 0):=by
 by_cases hk:k<l.length
 ·rw[qnp,qlx hk]
  exact h _ (qml hk)
 ·rw[qnp,qnx (by omega)]
  simp[U32]
def zl2(l:List Int):List Int:=l++List.replicate (64-l.length) 0
theorem znv{l:List Int}(h:l.length<=64):(zl2 l).length=64:=by simp[zl2];omega
theorem zkn{l:List Int}(h:l.length<64)(x:Int):(zl2 l).set l.length x=zl2 (l++[x]):=by unfold zl2;rw[qn5 _ _ (ql6 _),qn6,show 64-l.length=(64-(l++[x]).length)+1 by simp;omega,qn7,qn8];simp
theorem zzq{l:List Int}{k:Nat}(h:k<l.length):(zl2 l).getD k 0=l.getD k 0:=by unfold zl2;rw[qnp,qn9 h,<-qnp]
theorem zuj{l:List Int}(h:l.length=64):zl2 l=l:=by simp[zl2,h]
theorem zoq{B:List Nat}{k:Nat}(h:k<16):(zdh B).take (k+1)=(zdh B).take k++[zqu (B.getD (4*k) 0) (B.getD (4*k+1) 0) (B.getD (4*k+2) 0) (B.getD (4*k+3) 0)]:=by
 have hl:(zdh B).length=16:=by simp[zdh]
 rw[zae _ k 0 (by omega)];congr 1
 simp[zdh,h]
abbrev S8:=Int × Int × Int × Int × Int × Int × Int × Int
def za2(s:S8):Array Value:= #[.int .u32 s.1,.int .u32 s.2.1,.int .u32 s.2.2.1,.int .u32 s.2.2.2.1,.int .u32 s.2.2.2.2.1,.int .u32 s.2.2.2.2.2.1,.int .u32 s.2.2.2.2.2.2.1,.int .u32 s.2.2.2.2.2.2.2]
def pI(e f g i k w:Int):Int:=
 IntKind.u32.wrap (IntKind.u32.wrap (IntKind.u32.wrap (IntKind.u32.wrap (i+bits .xor .u32 (bits .xor .u32 (rot e 6) (rot e 11)) (rot e 25))+bits .xor .u32 (bits .and .u32 e f) (bits .and .u32 (bits .xor .u32 (if IntKind.u32.signed=true then-1 else IntKind.u32.max) e) g))+k)+w)
def qI(a b c:Int):Int:=(bits .xor .u32 (bits .xor .u32 (rot a 2) (rot a 13)) (rot a 22)+bits .xor .u32 (bits .xor .u32 (bits .and .u32 a b) (bits .and .u32 a c)) (bits .and .u32 b c))%4294967296
def z5c(k w:Int)(s:S8):S8:=
 match s with
 |(a,b,c,d,e,f,g,i)=>((pI e f g i k w+qI a b c)%4294967296,a,b,c,(d+pI e f g i k w)%4294967296,e,f,g)
def kI:List Int:=[1116352408,1899447441,3049323471,3921009573,961987163,1508970993,2453635748,2870763221,3624381080,310598401,607225278,1426881987,1925078388,2162078206,2614888103,3248222580,3835390401,4022224774,264347078,604807628,770255983,1249150122,1555081692,1996064986,2554220882,2821834349,2952996808,3210313671,3336571891,3584528711,113926993,338241895,666307205,773529912,1294757372,1396182291,1695183700,1986661051,2177026350,2456956037,2730485921,2820302411,3259730800,3345764771,3516065817,3600352804,4094571909,275423344,430227734,506948616,659060556,883997877,958139571,1322822218,1537002063,1747873779,1955562222,2024104815,2227730452,2361852424,2428436474,2756734187,3204031479,3329325298]
def zcw(W:List Int)(s:S8):Nat->S8
 |0=>s
 |t+1=>z5c (kI.getD t 0) (W.getD t 0) (zcw W s t)
def z16(s r:S8):S8:=((s.1+r.1)%4294967296,(s.2.1+r.2.1)%4294967296,(s.2.2.1+r.2.2.1)%4294967296,(s.2.2.2.1+r.2.2.2.1)%4294967296,(s.2.2.2.2.1+r.2.2.2.2.1)%4294967296,(s.2.2.2.2.2.1+r.2.2.2.2.2.1)%4294967296,(s.2.2.2.2.2.2.1+r.2.2.2.2.2.2.1)%4294967296,(s.2.2.2.2.2.2.2+r.2.2.2.2.2.2.2)%4294967296)
def zsp(s:S8)(B:List Nat):S8:=z16 s (zcw (zbk B) s 64)
def OkS(s:S8):Prop:=U32 s.1/\U32 s.2.1/\U32 s.2.2.1/\U32 s.2.2.2.1/\U32 s.2.2.2.2.1/\U32 s.2.2.2.2.2.1/\U32 s.2.2.2.2.2.2.1/\U32 s.2.2.2.2.2.2.2
theorem zqv(x:Int):U32 (x%4294967296):=by unfold U32;omega
theorem qa1(s:S8)(B:List Nat):OkS (zsp s B):=⟨zqv _,zqv _,zqv _,zqv _,zqv _,zqv _,zqv _,zqv _⟩
theorem zuk{W:List Int}{s:S8}(h:OkS s)(t:Nat):OkS (zcw W s t):=by
 induction t with
 |zero=>exact h
 |succ t ih=>
  obtain⟨h1,h2,h3,h4,h5,h6,h7,h8⟩:=ih;exact⟨zqv _,h1,h2,h3,zqv _,h5,h6,h7⟩
theorem zzr(B:List Nat)(h8:∀x∈B,x<256):∀x∈zbk B,U32 x:=zzp B h8 48
theorem zi7(B:List Nat):(zbk B).length=64:=zhb B 48
def zfq:S8:=(1779033703,3144134277,1013904242,2773480762,1359893119,2600822924,528734635,1541459225)
theorem z5d:OkS zfq:=by unfold OkS zfq U32;simp
def zeu(n:Nat):Nat:=63-(n+8)%64
def qfz(n k:Nat):Nat:=8*n/2^(56-8*k)%256
def zg2(n:Nat):List Nat:=(List.range 8).map (qfz n)
def znr(n:Nat):List Nat:=128::(List.replicate (zeu n) 0++zg2 n)
theorem zko(n:Nat):(znr n).length=1+zeu n+8:=by simp[znr,zg2];omega
theorem qf0(n:Nat):∀x∈znr n,x<256:=by
 intro x hx;simp only[znr,qnu,qnd,qoa,zg2,qly] at hx;rcases hx with rfl|⟨_,rfl⟩|⟨k,_,rfl⟩
 ·omega
 ·omega
 ·unfold qfz;omega
theorem qa2(n:Nat):(n+(znr n).length)%64=0:=by rw[zko];unfold zeu;omega
def zzs(n:Int):List Nat:=if 0<=n/\n<=2147483647 then znr n.toNat else []
def pv:Nat->List Nat->Option (Nat × List Nat)
 |0,_=>none
 |_+1,[]=>none
 |f+1,b::r=>if b<128 then some (b,r) else
   match pv f r with
   |some (0,_)=>none
   |some (N+1,r')=>some (b-128+128*(N+1),r')
   |none=>none
theorem qip:∀(f N:Nat) (r:List Nat),(vp N).length<=f->pv f (vp N++r)=some (N,r):=by
 intro f;induction f with
 |zero=>intro N r h;have:=zue N;omega
 |succ f ih=>
  intro N r h;by_cases hN:N<128
  ·rw[zgd hN];simp[pv,hN]
  ·rw[zge hN] at h⊢
   simp only[qm8,pv];rw[if_neg (by omega),ih (N/128) r (by simpa using h)];obtain⟨m,hm⟩:∃m,N/128=m+1:=⟨N/128-1,by omega⟩;simp only[hm];congr 2
   omega
theorem qgr:∀(f N:Nat) (l r:List Nat),(∀x∈l,x<256)->pv f l=some (N,r)->l=vp N++r/\(vp N).length<=f:=by
 intro f;induction f with
 |zero=>intro N l r _ h;simp[pv] at h
 |succ f ih=>
  intro N l r h8 h;cases l with
  |nil=>simp[pv] at h
  |cons b s=>
   simp only[pv] at h;by_cases hb:b<128
   ·rw[if_pos hb] at h
    simp only[qll,qlk] at h;obtain⟨rfl,rfl⟩:=h;rw[zgd hb];simp
   ·rw[if_neg hb] at h
    split at h
    ·simp at h
    ·rename_i M r' hM
     simp only[qll,qlk] at h;obtain⟨rfl,rfl⟩:=h;obtain⟨h1,h2⟩:=ih _ _ _ (fun x hx=>h8 x (by simp[hx])) hM;have hb2:=h8 b (by simp);rw[zge (by omega),show(b-128+128*(M+1))/128=M+1 by omega,show(b-128+128*(M+1))%128+128=b by omega,qm8,<-h1];refine⟨rfl,by simp;exact h2⟩
    ·simp at h
def gv(l:List Nat):Option (Nat × List Nat):=
 match pv 10 l with
 |some (N,r)=>if N<18446744073709551616 then some (N,r) else none
 |none=>none
theorem qe3(N:Nat)(r:List Nat)(hN:N<18446744073709551616):gv (vp N++r)=some (N,r):=by unfold gv;rw[qip 10 N r (zas hN)];simp[hN]
theorem zxx{l r:List Nat}{N:Nat}(h8:∀x∈l,x<256)(h:gv l=some (N,r)):l=vp N++r/\N<18446744073709551616:=by
 unfold gv at h;split at h
 ·rename_i M s hM
  split at h
  ·simp only[qll,qlk] at h
   obtain⟨rfl,rfl⟩:=h;exact⟨(qgr _ _ _ _ h8 hM).1,‹_›⟩
  ·cases h
 ·cases h
theorem qgs{l:List Nat}(h:gv l=none):∀N r,l=vp N++r->18446744073709551616<=N:=by
 intro N r hl;rcases qma N 18446744073709551616 with hN|hN
 ·rw[hl,qe3 N r hN] at h
  cases h
 ·exact hN
abbrev St:=Option (List Nat)
def zqr:St->Nat × St
 |none=>(0,none)
 |some l=>match gv l with
  |some (N,r)=>(N,some r)
  |none=>(0,none)
def lenS(m:Int)(S:St):Nat × St:=
 match zqr S with
 |(N,some r)=>if(N:Int)<=m then(N,some r) else(0,none)
 |(_,none)=>(0,none)
def zcn:St->Nat × St
 |some (b::r)=>(b,some r)
 |_=>(0,none)
def ze6(n:Int):St->List Nat × St
 |some l=>if 0<=n/\n<=(l.length:Int) then(l.take n.toNat,some (l.drop n.toNat)) else([],none)
 |none=>([],none)
def qca(S:St):Bool:=decide (S=some [])
def St.ok(S:St):Prop:=∀l,S=some l-> ∀x∈l,x<256
theorem St.ok_none:St.ok none:=fun _ h=>by cases h
abbrev qsp:=@St.ok_none
theorem St.ok_some{l:List Nat}(h:∀x∈l,x<256):St.ok (some l):=fun _ e=>by injection e with e;subst e;exact h
abbrev qsq:=@St.ok_some
theorem zs9(N:Nat)(r:List Nat)(hN:N<18446744073709551616):zqr (some (vp N++r))=(N,some r):=by simp[zqr,qe3 N r hN]
theorem zea(N:Nat)(r:List Nat){m:Int}(hN:(N:Int)<=m)(hm:m<=9223372036854775807):lenS m (some (vp N++r))=(N,some r):=by simp only[lenS,zs9 N r (by omega),if_pos hN]
theorem zu6(m:Int):lenS m none=(0,none):=rfl
theorem zmh:zcn none=(0,none):=rfl
theorem z2s(n:Int):ze6 n none=([],none):=rfl
theorem zdq(m:Int)(S:St)(hS:S.ok):lenS m S=(0,none)\/ ∃N r,S=some (vp N++r)/\(N:Int)<=m/\N<18446744073709551616/\lenS m S=(N,some r):=by
 unfold lenS zqr;cases S with
 |none=>exact .inl rfl
 |some l=>
  simp only;cases hg:gv l with
  |none=>exact .inl rfl
  |some p=>
   obtain⟨N,r⟩:=p;obtain⟨h1,h2⟩:=zxx (hS l rfl) hg;simp only;split
   ·exact .inr ⟨N,r,by rw[h1],‹_›,h2,rfl⟩
   ·exact .inl rfl
theorem zje(S:St)(hS:S.ok):zqr S=(0,none)\/ ∃N r,S=some (vp N++r)/\N<18446744073709551616/\zqr S=(N,some r):=by
 unfold zqr;cases S with
 |none=>exact .inl rfl
 |some l=>
  simp only;cases hg:gv l with
  |none=>exact .inl rfl
  |some p=>
   obtain⟨N,r⟩:=p;obtain⟨h1,h2⟩:=zxx (hS l rfl) hg;exact .inr ⟨N,r,by rw[h1],h2,rfl⟩
theorem zfi(n:Int)(S:St):ze6 n S=([],none)\/ ∃l,S=some l/\0<=n/\n<=(l.length:Int)/\ze6 n S=(l.take n.toNat,some (l.drop n.toNat)):=by
 unfold ze6;cases S with
 |none=>exact .inl rfl
 |some l=>
  simp only;split
  ·rename_i h;exact .inr ⟨l,rfl,h.1,h.2,rfl⟩
  ·exact .inl rfl
theorem zo5(a b:List Nat):ze6 (a.length:Int) (some (a++b))=(a,some b):=by simp only[ze6];rw[if_pos ⟨by omega,by rw[qmv];omega⟩];simp
theorem zds{m:Int}(S:St)(hm:0<=m)(hS:S.ok):((lenS m S).1:Int)<=m:=by
 rcases zdq m S hS with h|⟨N,r,_,h1,_,h⟩
 ·rw[h];exact hm
 ·rw[h];exact h1
theorem zb9{m:Int}{S:St}(hS:S.ok):(lenS m S).2.ok:=by
 rcases zdq m S hS with h|⟨N,r,h0,_,_,h⟩
 ·rw[h];exact qsp
 ·rw[h];exact qsq fun x hx=>hS _ h0 x (by simp[hx])
theorem zta{S:St}(hS:S.ok):(zqr S).2.ok:=by
 rcases zje S hS with h|⟨N,r,h0,_,h⟩
 ·rw[h];exact qsp
 ·rw[h];exact qsq fun x hx=>hS _ h0 x (by simp[hx])
theorem z6x{S:St}(hS:S.ok):(zqr S).1<18446744073709551616:=by
 rcases zje S hS with h|⟨N,r,h0,h1,h⟩
 ·rw[h];decide
 ·rw[h];exact h1
theorem ztb{S:St}(hS:S.ok):(zcn S).2.ok:=by
 unfold zcn;split
 ·exact qsq fun x hx=>hS _ rfl x (by simp[hx])
 ·exact qsp
theorem zn2{S:St}(hS:S.ok):(zcn S).1<256:=by
 unfold zcn;split
 ·exact hS _ rfl _ (by simp)
 ·decide
theorem zjf{n:Int}{S:St}(hS:S.ok):(ze6 n S).2.ok/\ ∀x∈(ze6 n S).1,x<256:=by
 rcases zfi n S with h|⟨l,h0,_,_,h⟩
 ·rw[h];exact⟨qsp,by simp⟩
 ·rw[h];exact⟨qsq fun x hx=>hS _ h0 x (qoo hx),fun x hx=>hS _ h0 x (qmu hx)⟩
theorem zo6{n:Int}{S:St}(hn:0<=n):((ze6 n S).1.length:Int)<=n:=by
 rcases zfi n S with h|⟨l,_,h1,h2,h⟩
 ·rw[h];simpa using hn
 ·rw[h,ql2];omega
theorem ze7{m:Int}{S:St}(hS:S.ok):((lenS m S).2.getD []).length<=(S.getD []).length:=by
 rcases zdq m S hS with h|⟨N,r,rfl,_,_,h⟩
 ·rw[h];simp
 ·rw[h];simp
theorem z6y{S:St}:((zcn S).2.getD []).length<=(S.getD []).length:=by unfold zcn;split<;> simp
end Go.Hm
namespace Go.Proofs.Y
open Go.RowKit Go.Hm
theorem z2w{w:World}(x y:Int):
 Calls Tryz.prog 124 #[.agg #[.int .i64 x,.int .i64 y],.int .i64 1048576] w (zak (.bool (inBox x y)) w):=by
 obtain⟨W0,hW0⟩:∃W,W=w.alloc (.cells #[.int .i64 x,.int .i64 y] 73):=⟨_,rfl⟩;have b0:New w W0:=by rw[hW0];exact(qq8 _ _).alloc (ql6 _) _
 have B0:Blk W0 w.heap.size 73 #[.int .i64 x,.int .i64 y]:=by rw[hW0];exact qrv _ _ _
 obtain⟨x0,x1⟩:=zb6 B0;have HO:=qrf (show inBox x y=(decide (-1048576<=x)&&decide (x<=1048576)&&decide (-1048576<=y)&&decide (y<=1048576)) from rfl);generalize inBox x y=O at*;rw[hW0] at x0 x1;clear B0;cases h1:decide (-1048576<=x)<;> cases h2:decide (x<=1048576)<;> cases h3:decide (-1048576<=y)<;> cases h4:decide (y<=1048576);all_goals
  rw[h1,h2,h3,h4] at HO;go_enter Tryz.func124,Tryz.ntmps124
  go_wp2
  go_ret
  exact⟨by rw[HO.out];rfl,by rw[<-hW0];exact b0⟩
theorem zrp{w:World}(x y:Int):
 Calls Tryz.prog 107 #[.agg #[.int .i64 x,.int .i64 y]] w (zak (.bool (inBox x y)) w):=by
 obtain⟨W0,hW0⟩:∃W,W=w.alloc (.cells #[.int .i64 x,.int .i64 y] 73):=⟨_,rfl⟩;have b0:New w W0:=by rw[hW0];exact(qq8 _ _).alloc (ql6 _) _
 have B0:Blk W0 w.heap.size 73 #[.int .i64 x,.int .i64 y]:=by rw[hW0];exact qrv _ _ _
 obtain⟨x0,x1⟩:=zb6 B0;rw[hW0] at x0 x1;clear B0;go_enter Tryz.func107,Tryz.ntmps107
 go_wp2_with (first
  |(go_at_call 124;refine(z2w x y).mono ?_;rintro e w' ⟨rfl,b1⟩))
 go_ret
 exact⟨rfl,qr0 b0 (by rw[hW0];exact b1)⟩
end Go.Proofs.Y
namespace Go.Hm
def shr:List Nat->List Nat->Nat
 |a::l,b::m=>if a=b then shr l m+1 else 0
 |_,_=>0
theorem zpl:∀a b:List Nat,shr a b<=a.length
 | [],_=>by simp[shr]
 |_::_,[]=>by simp[shr]
 |a::l,b::m=>by
  simp only[shr];split
  ·have:=zpl l m;simp;exact this
  ·simp
theorem ziy:∀a b:List Nat,shr a b<=b.length
 | [],_=>by simp[shr]
 |_::_,[]=>by simp[shr]
 |a::l,b::m=>by
  simp only[shr];split
  ·have:=ziy l m;simp;exact this
  ·simp
theorem qe7:∀(a b:List Nat) (n:Nat),n<=a.length->n<=b.length->a.take n=b.take n->(n=a.length\/n=b.length\/ ¬a.getD n 0=b.getD n 0)->shr a b=n
 | [],_,n,h1,_,_,_=>by simp at h1;simp[shr,h1]
 |_::_,[],n,_,h2,_,_=>by simp at h2;simp[shr,h2]
 |a::l,b::m,0,_,_,_,h=>by
  simp only[shr];rcases h with h|h|h
  ·simp at h
  ·simp at h
  ·simp at h;rw[if_neg h]
 |a::l,b::m,n+1,h1,h2,h3,h=>by
  simp only[qqb,qli] at h3;simp only[shr];rw[if_pos h3.1,qe7 l m n (by simpa using h1) (by simpa using h2) h3.2 (by simpa using h)]
def zud(l:List (List Nat)):Nat:=(l.map List.length).sum
theorem z7x(s:List Nat)(l:List (List Nat)):zud (s::l)=s.length+zud l:=by simp[zud]
theorem zyg(l m:List (List Nat)):zud (l++m)=zud l+zud m:=by simp[zud]
theorem zvj(l:List (List Nat))(k:Nat):zud (l.take k)<=zud l:=by
 conv=>rhs;rw[<-qoz k l,zyg]
 omega
def qas(l:List (List Nat)):Bool:=decide (l.length<=65536/\(∀s∈l,s.length<=65536)/\zud l<=16777216)
theorem zjl(l:List (List Nat)):qas l=true↔l.length<=65536/\(∀s∈l,s.length<=65536)/\zud l<=16777216:=by simp[qas]
theorem qc0{l:List (List Nat)}(h:65536<l.length):qas l=false:=by rw[qqc,Ne,zjl];omega
theorem qc1{l:List (List Nat)}{k:Nat}(hk:k<l.length)(h:65536<(l.getD k []).length):qas l=false:=by rw[qqc,Ne,zjl];rintro⟨_,h2,_⟩;have:=h2 (l.getD k []) (by rw[qnp,qlx hk];exact qml hk);omega
theorem qc2{l:List (List Nat)}{k:Nat}(h:16777216<zud (l.take k)):qas l=false:=by rw[qqc,Ne,zjl];rintro⟨_,_,h3⟩;have:=zvj l k;omega
theorem qc3{l:List (List Nat)}(h1:l.length<=65536)(h2:∀s∈l,s.length<=65536)(h3:zud l<=16777216):qas l=true:=(zjl l).2 ⟨h1,h2,h3⟩
theorem zvk(l:List (List Nat))(s:List Nat):zud (l++[s])=zud l+s.length:=by simp[zud]
def fpiece(a s:List Nat):List Nat:=vp (shr a s)++vp (s.length-shr a s)++s.drop (shr a s)
def zyh:List Nat->List (List Nat)->List Nat
 |_,[]=>[]
 |a,s::l=>fpiece a s++zyh s l
def zq4(a:List Nat)(l:List (List Nat)):List Nat:=l.getLast?.getD a
theorem z29(a s:List Nat)(l:List (List Nat)):zq4 a (l++[s])=s:=by simp[zq4]
theorem z7y(a s:List Nat)(l:List (List Nat)):zyh a (l++[s])=zyh a l++fpiece (zq4 a l) s:=by
 induction l generalizing a with
 |nil=>simp[zyh,zq4]
 |cons x l ih=>
  rw[qm8,zyh,ih x,zyh,qmi];congr 3
  cases l with
  |nil=>simp[zq4]
  |cons y l=>simp[zq4,List.getLast?_eq_some_getLast]
theorem z0s(a:List Nat)(l:List (List Nat))(h:∀s∈l,s.length<=65536):(zyh a l).length<=20*l.length+zud l:=by
 induction l generalizing a with
 |nil=>simp[zyh]
 |cons s l ih=>
  have h1:=ih s (fun x hx=>h x (by simp[hx]));have h2:=h s (by simp);have k2:=ziy a s;have v1:=zas (n:=shr a s) (by omega);have v2:=zas (n:=s.length-shr a s) (by omega);rw[zyh,fpiece,z7x,qm9];simp only[qmv,ql0];omega
theorem zvl{Q:List Nat->Prop}{a:List Nat}(l:List (List Nat))(ha:Q a)(h:∀s∈l,Q s):Q (zq4 a l):=by
 unfold zq4;cases hl:l.getLast? with
 |none=>exact ha
 |some x=>exact h x (List.mem_of_getLast? hl)
def qe8(l:List (List Nat)):Option (List Nat):=if qas l then some (zyh [] l) else none
theorem z0t:∀(k n:Nat),n<=k-> ∀x∈vp n,x<256:=by
 intro k;induction k using Nat.strongRecOn with
 |ind k ih=>
  intro n hk x hx;by_cases hn:n<128
  ·rw[zgd hn] at hx;simp at hx;omega
  ·rw[zge hn,qnu] at hx
   rcases hx with hx|hx
   ·omega
   ·exact ih (n/128) (by omega) (n/128) (ql6 _) x hx
theorem qg9(a:List Nat)(l:List (List Nat))(h:∀s∈l,∀x∈s,x<256):∀x∈zyh a l,x<256:=by
 induction l generalizing a with
 |nil=>simp[zyh]
 |cons s l ih=>
  intro x hx;rw[zyh,fpiece] at hx;simp only[qnd] at hx;rcases hx with((hx|hx)|hx)|hx
  ·exact z0t _ _ (ql6 _) x hx
  ·exact z0t _ _ (ql6 _) x hx
  ·exact h s (by simp) x (qoo hx)
  ·exact ih s (fun y hy=>h y (by simp[hy])) x hx
theorem qha{l:List (List Nat)}{b:List Nat}(h:∀s∈l,∀x∈s,x<256)(hb:qe8 l=some b):∀x∈b,x<256:=by
 unfold qe8 at hb;split at hb
 ·injection hb with hb
  rw[<-hb];exact qg9 [] l h
 ·cases hb
open Ieee
theorem dbl:Ieee.double.fractionBits=52/\Ieee.double.exponentBits=11:=⟨rfl,rfl⟩
theorem zli:Ieee.double.leastPlace= -1074:=by decide
theorem zrt:Ieee.double.binade=4503599627370496:=by decide
theorem z70:Ieee.double.infRung=9218868437227405312:=by decide
theorem z0u:Ieee.double.signWeight=9223372036854775808:=by decide
theorem zpm(way:Toward)(neg:Bool)(n d:Nat):way.cut neg (n*2^d) d=n:=by
 by_cases h0:n=0
 ·subst h0
  unfold Toward.cut;simp only[qox,Nat.zero_div,Nat.zero_mod];cases way<;> simp
 ·have hl:d<=(n*2^d).log2:=by
   rw[Nat.le_log2 (by have:=qnv d;exact qql h0 (by omega))];exact Nat.le_mul_of_pos_left _ (by omega)
  have hm:min d ((n*2^d).log2+2)=d:=ql3 (by omega);unfold Toward.cut;simp only[hm,Nat.one_shiftLeft,Nat.mul_div_cancel _ (qnv d),Nat.mul_mod_left];have hp:=qnv d;cases way<;> simp<;> omega
theorem zvm{n:Nat}(h:n≠0)(k:Nat):(n*2^k).log2=n.log2+k:=by
 have hp:=qnv k;have h1:2^(n.log2+k)<=n*2^k:=by rw[qnz];exact ql4 _ (qm1 h)
 have h2:n*2^k<2^(n.log2+k+1):=by rw[show n.log2+k+1=(n.log2+1)+k by omega,qnz];exact qny (qm2) hp
 have hne:n*2^k≠0:=qql h (by omega);have a1:=(Nat.le_log2 hne).2 h1;have a2:=(Nat.log2_lt hne).2 h2;omega
theorem zvn(f:Format)(s:Bool)(R:Nat)(hR:R<f.signWeight):f.read (f.word s R)=
 if R<f.binade then .number s R f.leastPlace
 else if R<f.infRung then .number s (f.binade+R%f.binade) (f.leastPlace+(R/f.binade-1:Nat))
 else if R=f.infRung then .infinity s else .nan s (R-f.infRung):=by
 have h1:(f.word s R/f.signWeight%2==1)=s:=by
  unfold Format.word;cases s with
  |false=>
   rw[if_neg (by simp),qpb hR];rfl
  |true=>
   rw[if_pos rfl,Nat.add_div_left _ (by omega),qpb hR];rfl
 have h2:f.word s R%f.signWeight=R:=by
  unfold Format.word;cases s with
  |false=>rw[if_neg (by simp),qng hR]
  |true=>rw[if_pos rfl,Nat.add_mod_left,qng hR]
 unfold Format.read;simp only[h1,h2]
theorem zvo(s:Bool)(n k:Nat)(hn:n<9007199254740992):∃k':Nat,Ieee.double.read (Ieee.double.nearest s (n*2^k) (-(k:Int)))= .number s (n*2^k') (-(k':Int)):=by
 by_cases h0:n=0
 ·subst h0
  obtain⟨j,hj⟩:∃j:Nat,Ieee.double.leastPlace= -(j:Int):=⟨1074,by rw[zli];rfl⟩;refine⟨j,?_⟩;rw[qox,qox,Format.nearest,if_pos rfl,zvn _ _ _ (by rw[z0u];omega),if_pos (by rw[zrt];omega),hj]
 ·have hp:=qnv k
  have hne:n*2^k≠0:=qql h0 (by omega);have hlog:n.log2<=52:=by have:=(Nat.log2_lt h0).2 (show n<2^53 by omega);omega
  have e1:(-(k:Int))+((n*2^k).log2:Nat)-(52:Nat)=(n.log2:Int)-52:=by rw[zvm h0];omega
  obtain⟨d,hd⟩:∃d,d=52-n.log2:=⟨_,rfl⟩;have hlast:max ((-(k:Int))+((n*2^k).log2:Nat)-(Ieee.double.fractionBits:Nat)) Ieee.double.leastPlace= -(d:Int):=by rw[dbl.1,e1,zli];omega
  have hkept:Toward.even.cut s ((n*2^k) <<< ((-(k:Int))- -(d:Int)).toNat) (-(d:Int)- -(k:Int)).toNat=n*2^d:=by
   by_cases hkd:k<=d
   ·rw[show((-(k:Int))- -(d:Int)).toNat=d-k by omega,show(-(d:Int)- -(k:Int)).toNat=0 by omega,qqm,qn4,<-qnz,show k+(d-k)=d by omega]
    have:=zpm .even s (n*2^d) 0;rwa[qp6,qmd] at this
   ·rw[show((-(k:Int))- -(d:Int)).toNat=0 by omega,show(-(d:Int)- -(k:Int)).toNat=k-d by omega,qqm,qp6,qmd]
    have:=zpm .even s (n*2^d) (k-d);rwa[qn4,<-qnz,show d+(k-d)=k by omega] at this
  have hlo:4503599627370496<=n*2^d:=by have:=ql4 (2^d) (qm1 h0);rw[<-qnz,show n.log2+d=52 by omega] at this;exact qlw (by decide) this
  have hhi:n*2^d<9007199254740992:=by have:=qny (qm2 (n:=n)) (qnv d);rw[<-qnz,show n.log2+1+d=53 by omega] at this;exact qlz this (by decide)
  refine⟨d,?_⟩;have hd2:d<=52:=by omega
  have hw:Ieee.double.nearest s (n*2^k) (-(k:Int))=Ieee.double.word s (min ((-(d:Int)-Ieee.double.leastPlace).toNat*Ieee.double.binade+n*2^d) Ieee.double.infRung):=by unfold Format.nearest;rw[if_neg hne];simp only[hlast,hkept]
  clear hlast hkept hlog e1 hd hne hp h0 hn;generalize Ieee.double.nearest s (n*2^k) (-(k:Int))=V at*;generalize n*2^d=K at*;rw[hw,zvn _ _ _ (by rw[z0u,z70];omega)];have e2:(-(d:Int)-Ieee.double.leastPlace).toNat=1074-d:=by rw[zli];omega
  rw[e2,zrt,z70,zli];generalize hm:1074-d=m;have hm2:m<=1074/\1022<=m:=by omega
  have hr:min (m*4503599627370496+K) 9218868437227405312=m*4503599627370496+K:=ql3 (by omega);rw[hr];have r1: ¬m*4503599627370496+K<4503599627370496:=by omega
  have r2:m*4503599627370496+K<9218868437227405312:=by omega
  have r3:4503599627370496+(m*4503599627370496+K)%4503599627370496=K:=by omega
  have r4:(m*4503599627370496+K)/4503599627370496-1=m:=by omega
  have r5:(-1074:Int)+(m:Int)= -(d:Int):=by omega
  rw[if_neg r1,if_pos r2,r3,r4,r5]
def RepD(x:Int)(d:Datum):Prop:=∃(s:Bool) (k:Nat),d= .number s (x.natAbs*2^k) (-(k:Int))/\(x≠0->s=decide (x<0))
def Rep(x:Int)(b:Nat):Prop:=RepD x (Ieee.double.read b)
theorem zmk{s:Bool}{x:Int}(h:x≠0->s=decide (x<0))(k u:Nat):Ieee.signed s (x.natAbs*2^k) u=x*((2^(k+u):Nat):Int):=by
 have e:(x.natAbs*2^k) <<< u=x.natAbs*2^(k+u):=by rw[qqm,qn4,<-qnz]
 unfold Ieee.signed;rw[e];generalize 2^(k+u)=p;by_cases h0:x=0
 ·subst h0
  cases s<;> simp
 ·by_cases hx:x<0
  ·rw[h h0,decide_eq_true hx,if_pos rfl,qms,show((x.natAbs:Nat):Int)= -x by omega,Int.neg_mul,Int.neg_neg]
  ·rw[h h0,decide_eq_false hx,if_neg (by simp),qms,show((x.natAbs:Nat):Int)=x by omega]
theorem RepD.write{x:Int}{d:Datum}(h:RepD x d)(hx:x.natAbs<9007199254740992):Rep x (Ieee.double.write d):=by obtain⟨s,k,rfl,hs⟩:=h;obtain⟨j,hj⟩:=zvo s x.natAbs k hx;exact⟨s,j,hj,hs⟩
theorem RepD.opposite{x:Int}{d:Datum}(h:RepD x d):RepD (-x) d.opposite:=by
 obtain⟨s,k,rfl,hs⟩:=h;refine⟨!s,k,?_,fun h0=>?_⟩
 ·rw[Int.natAbs_neg]
  rfl
 ·rw[hs (by omega)]
  by_cases hx:x<0
  ·rw[decide_eq_true hx,decide_eq_false (by omega)]
   rfl
  ·rw[decide_eq_false hx,decide_eq_true (by omega)]
   rfl
theorem RepD.product{x y:Int}{d e:Datum}(h:RepD x d)(h2:RepD y e):∃r,d.product e=some r/\RepD (x*y) r:=by
 obtain⟨s,k,rfl,hs⟩:=h;obtain⟨t,j,rfl,ht⟩:=h2;refine⟨_,rfl,s ^^ t,k+j,?_,fun h0=>?_⟩
 ·rw[qqn,qnz]
  congr 1
  ·generalize 2^k=p
   generalize 2^j=q;simp only[qn4,qnb,qmr]
  ·omega
 ·have hx:x≠0:=by rintro rfl;simp at h0
  have hy:y≠0:=by rintro rfl;simp at h0
  rw[hs hx,ht hy];rcases Int.lt_or_gt_of_ne hx with hx|hx<;> rcases Int.lt_or_gt_of_ne hy with hy|hy
  ·have:=Int.mul_pos_of_neg_of_neg hx hy
   simp[hx,hy];omega
  ·have:=qqo hx hy
   simp[hx,this];omega
  ·have:=Int.mul_neg_of_pos_of_neg hx hy
   simp[hy,this];omega
  ·have:=Int.mul_pos hx hy
   have a1: ¬x<0:=by omega
   have a2: ¬y<0:=by omega
   have a3: ¬x*y<0:=by omega
   simp[a1,a2,a3]
theorem RepD.sum{x y:Int}{d e:Datum}(h:RepD x d)(h2:RepD y e):∃r,d.sum e=some r/\RepD (x+y) r:=by
 obtain⟨s,k,rfl,hs⟩:=h;obtain⟨t,j,rfl,ht⟩:=h2;obtain⟨m,hm⟩:∃m,m=max k j:=⟨_,rfl⟩;have hb:min (-(k:Int)) (-(j:Int))= -(m:Int):=by omega
 have hk:k+(-(k:Int)- -(m:Int)).toNat=m:=by omega
 have hj:j+(-(j:Int)- -(m:Int)).toNat=m:=by omega
 have ht:Ieee.signed s (x.natAbs*2^k) (-(k:Int)- -(m:Int)).toNat+Ieee.signed t (y.natAbs*2^j) (-(j:Int)- -(m:Int)).toNat=(x+y)*((2^m:Nat):Int):=by rw[zmk hs,zmk ht,hk,hj,Int.add_mul]
 have hp:0<2^m:=qnv m;refine⟨_,rfl,?_⟩;simp only[hb,ht];generalize x+y=z;refine⟨if z*((2^m:Nat):Int)=0 then s&&t else decide (z*((2^m:Nat):Int)<0),m,?_,fun h0=>?_⟩
 ·rw[qqn,Int.natAbs_natCast]
 ·have hz: ¬z*((2^m:Nat):Int)=0:=by
   rw[Int.mul_eq_zero];rintro(hh|hh)
   ·exact h0 hh
   ·omega
  rw[if_neg hz];have hp2:(0:Int)<((2^m:Nat):Int):=by omega
  generalize((2^m:Nat):Int)=p at*;congr 1
  rw[eq_iff_iff];constructor
  ·intro hh
   exact qqe fun hn=>by have:=qp4 (show 0<=z by omega) (show 0<=p by omega);omega
  ·intro hh
   exact qqo hh hp2
theorem RepD.toInt{x:Int}{d:Datum}(h:RepD x d):d.toInt .zero=some x:=by
 obtain⟨s,k,rfl,hs⟩:=h;have e1:(-(k:Int)).toNat=0:=by omega
 have e2:(-(-(k:Int))).toNat=k:=by omega
 have e3:=zmk hs 0 0;rw[qp6,qmd] at e3;simp only[Datum.toInt,Datum.integral,e1,e2,Nat.shiftLeft_zero,zpm];rw[e3];simp
theorem zvp(n:Int)(h:n.natAbs<9007199254740992):Rep n (floatOfInt .f64 n):=by have:RepD n (.number (n<0) n.natAbs 0):=⟨decide (n<0),0,by simp,fun _=>rfl⟩;exact this.write h
theorem ztn{x y:Int}{a b:Nat}(h:Rep x a)(h2:Rep y b)(hx:(x*y).natAbs<9007199254740992):∃r,floatBits .mul .f64 a b=some r/\Rep (x*y) r:=by obtain⟨r,h3,h4⟩:=RepD.product h h2;exact⟨Ieee.double.write r,by show((Ieee.double.read a).product (Ieee.double.read b)).map Ieee.double.write=_;rw[h3];rfl,h4.write hx⟩
theorem qhb{x y:Int}{a b:Nat}(h:Rep x a)(h2:Rep y b)(hx:(x+y).natAbs<9007199254740992):∃r,floatBits .add .f64 a b=some r/\Rep (x+y) r:=by obtain⟨r,h3,h4⟩:=RepD.sum h h2;exact⟨Ieee.double.write r,by show((Ieee.double.read a).sum (Ieee.double.read b)).map Ieee.double.write=_;rw[h3];rfl,h4.write hx⟩
theorem zyj{x y:Int}{a b:Nat}(h:Rep x a)(h2:Rep y b)(hx:(x-y).natAbs<9007199254740992):∃r,floatBits .sub .f64 a b=some r/\Rep (x-y) r:=by obtain⟨r,h3,h4⟩:=RepD.sum h (RepD.opposite h2);exact⟨Ieee.double.write r,by show((Ieee.double.read a).sum (Ieee.double.read b).opposite).map Ieee.double.write=_;rw[h3];rfl,h4.write hx⟩
theorem zyk{x:Int}{a:Nat}(h:Rep x a)(hx: -9223372036854775808<=x/\x<=9223372036854775807):floatToIntVal .f64 a .i64=some x:=by have h3:(FloatKind.f64.decode a).toInt .zero=some x:=RepD.toInt h;unfold floatToIntVal;rw[h3];exact if_pos hx
def z3a(x y:Int)(a b:Nat):Prop:=Rep x a/\Rep y b
theorem qc5{x y u v:Int}{a b c d:Nat}(h:z3a x y a b)(h2:z3a u v c d)(h3:(x*u).natAbs<9007199254740992)(h4:(y*v).natAbs<9007199254740992)(h5:(x*u-y*v).natAbs<9007199254740992)
 (h6:(x*v).natAbs<9007199254740992)(h7:(y*u).natAbs<9007199254740992)(h8:(x*v+y*u).natAbs<9007199254740992):∃re im,cMulBits a b c d=some (re,im)/\z3a (x*u-y*v) (x*v+y*u) re im:=by
 obtain⟨r1,e1,k1⟩:=ztn h.1 h2.1 h3;obtain⟨r2,e2,k2⟩:=ztn h.2 h2.2 h4;obtain⟨r3,e3,k3⟩:=zyj k1 k2 h5;obtain⟨r4,e4,k4⟩:=ztn h.1 h2.2 h6;obtain⟨r5,e5,k5⟩:=ztn h.2 h2.1 h7;obtain⟨r6,e6,k6⟩:=qhb k4 k5 h8;exact⟨r3,r6,by simp[cMulBits,e1,e2,e3,e4,e5,e6],k3,k6⟩
theorem qc6{x y u v:Int}{a b c d:Nat}(h:z3a x y a b)(h2:z3a u v c d)(h3:(x-u).natAbs<9007199254740992)(h4:(y-v).natAbs<9007199254740992):∃re im,cSumBits .sub .f64 a b c d=some (re,im)/\z3a (x-u) (y-v) re im:=by obtain⟨r1,e1,k1⟩:=zyj h.1 h2.1 h3;obtain⟨r2,e2,k2⟩:=zyj h.2 h2.2 h4;exact⟨r1,r2,by simp[cSumBits,e1,e2],k1,k2⟩
theorem qc7(f:Format)(b:Nat):f.read (b ^^^ 2^(f.exponentBits+f.fractionBits))=(f.read b).opposite:=by
 have hS:f.signWeight=2^(f.exponentBits+f.fractionBits):=rfl;generalize hn:f.exponentBits+f.fractionBits=n at*;have hp:=qnv n;have h1:((b ^^^ 2^n)/2^n%2==1)= !(b/2^n%2==1):=by
  rw[Nat.xor_div_two_pow,Nat.div_self hp];generalize b/2^n=c;have e:(c ^^^ 1)%2=(c%2) ^^^ 1:=by have:= @Nat.xor_mod_two_pow c 1 1;simpa using this
  rw[e];rcases Nat.mod_two_eq_zero_or_one c with h|h
  ·rw[h]
   rfl
  ·rw[h]
   rfl
 have h2:(b ^^^ 2^n)%2^n=b%2^n:=by rw[Nat.xor_mod_two_pow,Nat.mod_self,Nat.xor_zero]
 unfold Format.read;rw[hS];simp only[h1,h2];generalize b%2^n=R;by_cases a1:R<f.binade
 ·rw[if_pos a1,if_pos a1]
  rfl
 ·rw[if_neg a1,if_neg a1]
  by_cases a2:R<f.infRung
  ·rw[if_pos a2,if_pos a2]
   rfl
  ·rw[if_neg a2,if_neg a2]
   by_cases a3:R=f.infRung
   ·rw[if_pos a3,if_pos a3]
    rfl
   ·rw[if_neg a3,if_neg a3]
    rfl
theorem qhc{x:Int}{b:Nat}(h:Rep x b):Rep (-x) (Op.negFloat .f64 b):=by have:=RepD.opposite h;rw[<-qc7] at this;exact this
theorem z3b(k:FloatKind)(b:Nat):Op.unary .neg (.float k b)=pure (.float k (Op.negFloat k b)):=rfl
theorem z71{x y:Int}{a b:Nat}(h:z3a x y a b)(hx: -2097152<=x/\x<=2097152)(hy: -2097152<=y/\y<=2097152):∃re im,cMulBits a b a (Op.negFloat .f64 b)=some (re,im)/\floatToIntVal .f64 re .i64=some (x*x+y*y):=by
 have q:∀u v:Int,-2097152<=u/\u<=2097152-> -2097152<=v/\v<=2097152-> -4398046511104<=u*v/\u*v<=4398046511104:=by
  intro u v hu hv;have h1:(u*v).natAbs<=2097152*2097152:=by rw[qqn];exact qp5 (by omega) (by omega)
  omega
 have h1:=q x x hx hx;have h2:=q y (-y) hy (by omega);have h3:=q x (-y) hx (by omega);have h4:=q y x hy hx;have e:y* -y= -(y*y):=by rw[Int.mul_neg]
 obtain⟨re,im,k1,k2⟩:=qc5 h ⟨h.1,qhc h.2⟩ (by omega) (by omega) (by omega) (by omega) (by omega) (by omega);refine⟨re,im,k1,?_⟩;have:=zyk k2.1 (by omega);rw[this,e,Int.sub_neg]
end Go.Hm
