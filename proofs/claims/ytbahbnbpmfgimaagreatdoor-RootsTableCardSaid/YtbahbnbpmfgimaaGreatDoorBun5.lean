import Derived.Test.YtbahbnbpmfgimaaGreatDoorBun4
set_option maxHeartbeats 1000000
set_option maxRecDepth 100000
namespace Go.Hm
open Go
theorem zsn(x y k:Nat)(a:y<2^k):(x*2^k) ||| y=x*2^k+y:=by rw[qrl,<-qsd a]
theorem z7t(x y k:Nat)(b:y<2^k)(a:x%2^k=0):x ||| y=x+y:=nat_join k x y a b
theorem qov(x:Nat):bits .or .u8 ((x:Int)%256) 128=((x%128+128:Nat):Int):=by
 have h:=u8_or_nat (x%256) 128 (by omega) (by omega);rw[show((x:Int)%256)=((x%256:Nat):Int) from by omega,show(128:Int)=((128:Nat):Int) from rfl,h];congr 1
 by_cases a:x%256<128
 ·rw[qsc,z7t 128 (x%256) 7 a rfl];omega
 ·have e:x%256=128+x%128:=by omega
  rw[e,qsc,<-z7t 128 (x%128) 7 (by omega) rfl,<-Nat.or_assoc,Nat.or_self,z7t 128 (x%128) 7 (by omega) rfl];omega
theorem zif(T:List Nat)(k:Nat)(b:k<=T.length)(a:∀x∈T,x<256):num (T.take k)<2^(8*k):=by have h:=zsl (T.take k) (fun x c=>a x (qro c));rw[qqx,qqy b,show(256:Nat)=2^8 from rfl,<-qsp] at h;exact h
theorem zf0(T:List Nat)(k:Nat)(b:∀x∈T,x<256):T.getD k 0<256:=by
 by_cases a:k<T.length
 ·rw[qsh,qqt a]
  exact b _ (qrf a)
 ·rw[qsh,qsq (by omega)]
  simp
theorem zt7(T:List Nat)(k:Nat)(b:k<T.length)(a:∀x∈T,x<256):num (T.take k) ||| (T.getD k 0*2^(8*k))=num (T.take (k+1)):=by rw[zac T k 0 b,z1e,qqx,qqy (by omega),qsc,zsn _ _ _ (zif T k (by omega) a),show(256:Nat)=2^8 from rfl,<-qsp,qse]
theorem zhg{x k m:Nat}(b:x<256)(a:8*(k+1)<=m):x*2^(8*k)<2^m:=by
 have c:x*2^(8*k)<256*2^(8*k):=qsr b (qsn _);have d:256*2^(8*k)=2^(8*(k+1)):=by rw[qr2,qss,qrl]
 have e:2^(8*(k+1))<=2^m:=qsb (by omega) a;omega
theorem zy0(T:List Nat)(k:Nat)(g:k<T.length)(j:T.length<=1)(a:∀x∈T,x<256):
 bits .or .u8 ((num (T.take k):Nat):Int) (((T.getD k 0:Nat):Int)*2^(8*k)%256)=((num (T.take (k+1)):Nat):Int):=by
 have i:=zf0 T k a;have e:=zhg (m:=8) i (show 8*(k+1)<=8 by omega);have h:=zif T k (by omega) a;have b:2^(8*k)<=2^8:=qsb (by omega) (by omega);have f:(((T.getD k 0:Nat):Int)*2^(8*k)%256)=((T.getD k 0*2^(8*k):Nat):Int):=by
  have c:((T.getD k 0*2^(8*k):Nat):Int)=((T.getD k 0:Nat):Int)*2^(8*k):=by simp
  have d:((T.getD k 0*2^(8*k):Nat):Int)<256:=by have:T.getD k 0*2^(8*k)<256:=e;omega
  rw[c] at d⊢
  skip
  exact qst (by rw[<-c];omega) d
 rw[f,u8_or_nat _ _ (qqv h b) e,zt7 T k g a]
theorem zvz(T:List Nat)(k:Nat)(h:k<T.length)(l:T.length<=4)(b:∀x∈T,x<256):
 bits .or .u32 ((num (T.take k):Nat):Int) (((T.getD k 0:Nat):Int)%4294967296*2^(8*k)%4294967296)=((num (T.take (k+1)):Nat):Int):=by
 have j:=zf0 T k b;have f:=zhg (m:=32) j (show 8*(k+1)<=32 by omega);have i:=zif T k (by omega) b;have c:2^(8*k)<=2^32:=qsb (by omega) (by omega);have g:(((T.getD k 0:Nat):Int)%4294967296*2^(8*k)%4294967296)=((T.getD k 0*2^(8*k):Nat):Int):=by
  have d:((T.getD k 0*2^(8*k):Nat):Int)=((T.getD k 0:Nat):Int)*2^(8*k):=by simp
  have e:((T.getD k 0*2^(8*k):Nat):Int)<4294967296:=by have:T.getD k 0*2^(8*k)<4294967296:=f;omega
  rw[d] at e⊢;rw[qst (a:=((T.getD k 0:Nat):Int)) (by omega) (by omega)];exact qst (by rw[<-d];omega) e
 rw[g,u32_or_nat _ _ (qqv i c) f,zt7 T k h b]
theorem zv0(T:List Nat)(k:Nat)(h:k<T.length)(l:T.length<=8)(b:∀x∈T,x<256):
 bits .or .u64 ((num (T.take k):Nat):Int) (IntKind.u64.wrap (IntKind.u64.wrap ((T.getD k 0:Nat):Int)*2^(8*k)))=((num (T.take (k+1)):Nat):Int):=by
 rw[qwp,qwp];have j:=zf0 T k b;have f:=zhg (m:=64) j (show 8*(k+1)<=64 by omega);have i:=zif T k (by omega) b;have c:2^(8*k)<=2^64:=qsb (by omega) (by omega);have g:(((T.getD k 0:Nat):Int)%18446744073709551616*2^(8*k)%18446744073709551616)=((T.getD k 0*2^(8*k):Nat):Int):=by
  have d:((T.getD k 0*2^(8*k):Nat):Int)=((T.getD k 0:Nat):Int)*2^(8*k):=by simp
  have e:((T.getD k 0*2^(8*k):Nat):Int)<18446744073709551616:=by have:T.getD k 0*2^(8*k)<18446744073709551616:=f;omega
  rw[d] at e⊢;rw[qst (a:=((T.getD k 0:Nat):Int)) (by omega) (by omega)];exact qst (by rw[<-d];omega) e
 rw[g,u64_or_nat _ _ (qqv i c) f,zt7 T k h b]
theorem zy1(x k:Nat):((x:Int)/2^(8*k)%256)=((x/256^k%256:Nat):Int):=by rw[show(256:Nat)^k=2^(8*k) by rw[show(256:Nat)=2^8 from rfl,<-qsp]];simp
open Go Go.RowKit
def U32(x:Int):Prop:=0<=x/\x<4294967296
def rot(x:Int)(n:Nat):Int:=(x/2^n+x*2^(32-n)%4294967296)%4294967296
theorem z7u{n:Nat}(a:n<=32):2^n*2^(32-n)=4294967296:=by rw[<-qss,show n+(32-n)=32 by omega]
theorem qmm{x:Int}{n:Nat}(m:U32 x)(o:n<=31):bits .or .u32 (x/2^n) (x*2^(32-n)%4294967296)=rot x n:=by
 obtain⟨j,p⟩:=m;obtain⟨X,rfl⟩:=qsu j;have l:X<4294967296:=by omega
 have c:=z7u (show n<=32 by omega);have h:X*2^(32-n)%4294967296=(X%2^n)*2^(32-n):=by rw[<-c,Nat.mul_mod_mul_right]
 have g:X/2^n<2^(32-n):=qrz (by rw[c];exact l);have d:=qsn n;have i:X%2^n<2^n:=qr7 _ d;have q:X/2^n+(X%2^n)*2^(32-n)<4294967296:=by have k:(X%2^n+1)*2^(32-n)<=2^n*2^(32-n):=qqz _ i;rw[c,qsv] at k;omega
 have e:((X:Int)/2^n)=((X/2^n:Nat):Int):=by simp
 have f:((X:Int)*2^(32-n)%4294967296)=((X*2^(32-n)%4294967296:Nat):Int):=by simp
 unfold rot;rw[e,f,h,u32_or_nat _ _ (by generalize X%2^n*2^(32-n)=b at*;omega) (by generalize X/2^n=a at*;omega),qsc,zsn _ _ _ g];clear e f h g i c;generalize X/2^n=a at*;generalize X%2^n*2^(32-n)=b at*;omega
def zv1(a b c d:Nat):Int:=(((a*256+b)*256+c)*256+d:Nat)
theorem qjs{a b c d:Nat}(e:a<256)(f:b<256)(g:c<256)(h:d<256):U32 (zv1 a b c d):=by unfold zv1 U32;omega
theorem qjt{a b c d:Nat}(p:a<256)(q:b<256)(r:c<256)(l:d<256):
 bits .or .u32 (bits .or .u32 (bits .or .u32 (IntKind.u32.wrap (IntKind.u32.wrap (a:Int)*16777216)) (IntKind.u32.wrap (IntKind.u32.wrap (b:Int)*65536))) (IntKind.u32.wrap (IntKind.u32.wrap (c:Int)*256))) (IntKind.u32.wrap (d:Int))=zv1 a b c d:=by
 have h:IntKind.u32.wrap (IntKind.u32.wrap (a:Int)*16777216)=((a*16777216:Nat):Int):=by rw[qwq,qwq];omega
 have i:IntKind.u32.wrap (IntKind.u32.wrap (b:Int)*65536)=((b*65536:Nat):Int):=by rw[qwq,qwq];omega
 have j:IntKind.u32.wrap (IntKind.u32.wrap (c:Int)*256)=((c*256:Nat):Int):=by rw[qwq,qwq];omega
 have k:IntKind.u32.wrap (d:Int)=((d:Nat):Int):=by rw[qwq];omega
 have f:(2:Nat)^24=16777216:=by decide
 have e:(2:Nat)^16=65536:=by decide
 have g:(2:Nat)^8=256:=by decide
 have m:a*16777216 ||| b*65536=(a*256+b)*65536:=by rw[<-f,zsn a (b*65536) 24 (by rw[f];omega),f,qsw,qsx]
 have n:(a*256+b)*65536 ||| c*256=((a*256+b)*256+c)*256:=by rw[<-e,zsn (a*256+b) (c*256) 16 (by rw[e];omega),e,qsw ((a*256+b)*256),qsx]
 have o:((a*256+b)*256+c)*256 ||| d=((a*256+b)*256+c)*256+d:=by have:=zsn ((a*256+b)*256+c) d 8 (by rw[g];exact l);rwa[g] at this
 rw[h,i,j,k,u32_or_nat _ _ (by omega) (by omega),m,u32_or_nat _ _ (by omega) (by omega),n,u32_or_nat _ _ (by omega) (by omega),o];rfl
def zg3(B:List Nat):List Int:=(List.range 16).map fun k=>zv1 (B.getD (4*k) 0) (B.getD (4*k+1) 0) (B.getD (4*k+2) 0) (B.getD (4*k+3) 0)
def z37(l:List Int):Int:=
 IntKind.u32.wrap (IntKind.u32.wrap (IntKind.u32.wrap (l.getD (l.length-16) 0+bits .xor .u32 (bits .xor .u32 (rot (l.getD (l.length-15) 0) 7) (rot (l.getD (l.length-15) 0) 18)) (l.getD (l.length-15) 0/8))+l.getD (l.length-7) 0)
  +bits .xor .u32 (bits .xor .u32 (rot (l.getD (l.length-2) 0) 17) (rot (l.getD (l.length-2) 0) 19)) (l.getD (l.length-2) 0/1024))
def zbr(B:List Nat):Nat->List Int
 |0=>zg3 B
 |j+1=>zbr B j++[z37 (zbr B j)]
def zc2(B:List Nat):List Int:=zbr B 48
theorem znb(B:List Nat)(j:Nat):(zbr B j).length=16+j:=by
 induction j with
 |zero=>simp[zbr,zg3]
 |succ j a=>simp[zbr,a];omega
theorem qmn(x:Int):U32 (IntKind.u32.wrap x):=by rw[qwq];unfold U32;omega
theorem z1f(B:List Nat)(b:∀x∈B,x<256)(j:Nat):∀x∈zbr B j,U32 x:=by
 induction j with
 |zero=>
  intro x a;simp only[zbr,zg3,qqu] at a;obtain⟨k,_,rfl⟩:=a;exact qjs (zf0 B _ b) (zf0 B _ b) (zf0 B _ b) (zf0 B _ b)
 |succ j c=>
  intro x a;simp only[zbr,qr5,qr6] at a;rcases a with a|rfl
  ·exact c x a
  ·exact qmn _
theorem qii{l:List Int}{k:Nat}(h:∀x∈l,U32 x):U32 (l.getD k 0):=by
 by_cases a:k<l.length
 ·rw[qsh,qqt a]
  exact h _ (qrf a)
 ·rw[qsh,qsq (by omega)]
  simp[U32]
def zy2(l:List Int):List Int:=l++List.replicate (64-l.length) 0
theorem z1g{l:List Int}(h:l.length<=64):(zy2 l).length=64:=by simp[zy2];omega
theorem z1h{l:List Int}(h:l.length<64)(x:Int):(zy2 l).set l.length x=zy2 (l++[x]):=by unfold zy2;rw[qsy _ _ (qq0 _),qsz,show 64-l.length=(64-(l++[x]).length)+1 by simp;omega,qs0,qs1];simp
theorem qd6{l:List Int}{k:Nat}(h:k<l.length):(zy2 l).getD k 0=l.getD k 0:=by unfold zy2;rw[qsh,qs2 h,<-qsh]
theorem z7v{l:List Int}(h:l.length=64):zy2 l=l:=by simp[zy2,h]
theorem zy3{B:List Nat}{k:Nat}(h:k<16):(zg3 B).take (k+1)=(zg3 B).take k++[zv1 (B.getD (4*k) 0) (B.getD (4*k+1) 0) (B.getD (4*k+2) 0) (B.getD (4*k+3) 0)]:=by
 have a:(zg3 B).length=16:=by simp[zg3]
 rw[zac _ k 0 (by omega)];congr 1
 simp[zg3,h]
abbrev S8:=Int × Int × Int × Int × Int × Int × Int × Int
def zb1(s:S8):Array Value:= #[.int .u32 s.1,.int .u32 s.2.1,.int .u32 s.2.2.1,.int .u32 s.2.2.2.1,.int .u32 s.2.2.2.2.1,.int .u32 s.2.2.2.2.2.1,.int .u32 s.2.2.2.2.2.2.1,.int .u32 s.2.2.2.2.2.2.2]
def pI(e f g i k w:Int):Int:=
 IntKind.u32.wrap (IntKind.u32.wrap (IntKind.u32.wrap (IntKind.u32.wrap (i+bits .xor .u32 (bits .xor .u32 (rot e 6) (rot e 11)) (rot e 25))+bits .xor .u32 (bits .and .u32 e f) (bits .and .u32 (bits .xor .u32 (if IntKind.u32.signed=true then-1 else IntKind.u32.max) e) g))+k)+w)
def qI(a b c:Int):Int:=(bits .xor .u32 (bits .xor .u32 (rot a 2) (rot a 13)) (rot a 22)+bits .xor .u32 (bits .xor .u32 (bits .and .u32 a b) (bits .and .u32 a c)) (bits .and .u32 b c))%4294967296
def qju(k w:Int)(s:S8):S8:=
 match s with
 |(a,b,c,d,e,f,g,i)=>((pI e f g i k w+qI a b c)%4294967296,a,b,c,(d+pI e f g i k w)%4294967296,e,f,g)
def kI:List Int:=[1116352408,1899447441,3049323471,3921009573,961987163,1508970993,2453635748,2870763221,3624381080,310598401,607225278,1426881987,1925078388,2162078206,2614888103,3248222580,3835390401,4022224774,264347078,604807628,770255983,1249150122,1555081692,1996064986,2554220882,2821834349,2952996808,3210313671,3336571891,3584528711,113926993,338241895,666307205,773529912,1294757372,1396182291,1695183700,1986661051,2177026350,2456956037,2730485921,2820302411,3259730800,3345764771,3516065817,3600352804,4094571909,275423344,430227734,506948616,659060556,883997877,958139571,1322822218,1537002063,1747873779,1955562222,2024104815,2227730452,2361852424,2428436474,2756734187,3204031479,3329325298]
def zfv(W:List Int)(s:S8):Nat->S8
 |0=>s
 |t+1=>qju (kI.getD t 0) (W.getD t 0) (zfv W s t)
def qjv(s r:S8):S8:=((s.1+r.1)%4294967296,(s.2.1+r.2.1)%4294967296,(s.2.2.1+r.2.2.1)%4294967296,(s.2.2.2.1+r.2.2.2.1)%4294967296,(s.2.2.2.2.1+r.2.2.2.2.1)%4294967296,(s.2.2.2.2.2.1+r.2.2.2.2.2.1)%4294967296,(s.2.2.2.2.2.2.1+r.2.2.2.2.2.2.1)%4294967296,(s.2.2.2.2.2.2.2+r.2.2.2.2.2.2.2)%4294967296)
def z38(s:S8)(B:List Nat):S8:=qjv s (zfv (zc2 B) s 64)
def OkS(s:S8):Prop:=U32 s.1/\U32 s.2.1/\U32 s.2.2.1/\U32 s.2.2.2.1/\U32 s.2.2.2.2.1/\U32 s.2.2.2.2.2.1/\U32 s.2.2.2.2.2.2.1/\U32 s.2.2.2.2.2.2.2
theorem zr5(x:Int):U32 (x%4294967296):=by unfold U32;omega
theorem qd7(s:S8)(B:List Nat):OkS (z38 s B):=⟨zr5 _,zr5 _,zr5 _,zr5 _,zr5 _,zr5 _,zr5 _,zr5 _⟩
theorem z7w{W:List Int}{s:S8}(h:OkS s)(t:Nat):OkS (zfv W s t):=by
 induction t with
 |zero=>exact h
 |succ t g=>
  obtain⟨a,b,c,i,d,e,f,j⟩:=g;exact⟨zr5 _,a,b,c,zr5 _,d,e,f⟩
theorem qd8(B:List Nat)(a:∀x∈B,x<256):∀x∈zc2 B,U32 x:=z1f B a 48
theorem zso(B:List Nat):(zc2 B).length=64:=znb B 48
def zkz:S8:=(1779033703,3144134277,1013904242,2773480762,1359893119,2600822924,528734635,1541459225)
theorem z7x:OkS zkz:=by unfold OkS zkz U32;simp
def zgl(n:Nat):Nat:=63-(n+8)%64
def qmo(n k:Nat):Nat:=8*n/2^(56-8*k)%256
def zjc(n:Nat):List Nat:=(List.range 8).map (qmo n)
def zv2(n:Nat):List Nat:=128::(List.replicate (zgl n) 0++zjc n)
theorem zo4(n:Nat):(zv2 n).length=1+zgl n+8:=by simp[zv2,zjc];omega
theorem qjw(n:Nat):∀x∈zv2 n,x<256:=by
 intro x a;simp only[zv2,qsm,qr5,qs3,zjc,qqu] at a;rcases a with rfl|⟨_,rfl⟩|⟨k,_,rfl⟩
 ·omega
 ·omega
 ·unfold qmo;omega
theorem qd9(n:Nat):(n+(zv2 n).length)%64=0:=by rw[zo4];unfold zgl;omega
def qjx(n:Int):List Nat:=if 0<=n/\n<=2147483647 then zv2 n.toNat else []
open Go Go.RowKit
section
variable{P:Program}{e:TypeId}{k:IntKind}
theorem zi3(d:Nat)(b:P.underlying e=some (.int k))(a:P.plainKey e=true)(l m:List Int)(w:World):∀is:List Nat,(∀i∈is,i<l.length/\i<m.length)->
 (Op.eqItems (d+1) e 1 (za5 k l).toArray (za5 k m).toArray is).run P w= .ok (is.all fun i=>l.getD i 0==m.getD i 0) w
 | [],_=>by simp[Op.eqItems]
 |i::is,h=>by
  obtain⟨h1,h2⟩:=h i (by simp);have g:=run_part_plain (P:=P) w a (xs:=(za5 k l).toArray) (off:=i*1) (v:= .int k (l.getD i 0)) (by simpa using zpq k l i h1);have n:=run_part_plain (P:=P) w a (xs:=(za5 k m).toArray) (off:=i*1) (v:= .int k (m.getD i 0)) (by simpa using zpq k m i h2);have f:=zi3 d b a l m w is (fun j c=>h j (by simp[c]));have q:=run_equalIn_int (P:=P) w d e k k (l.getD i 0) (m.getD i 0) b;simp only[Op.eqItems,qwg,g,n,q,qwi,List.all_cons];cases hb:(l.getD i 0==m.getD i 0)
  ·simp
  ·simp[f]
theorem z8s{l m:List Int}(h:l.length=m.length):((List.range l.length).all fun i=>l.getD i 0==m.getD i 0)=(l==m):=by
 rw[qrd,qs9,beq_iff_eq];constructor
 ·intro c
  refine qre h fun i a b=>?_
  have:=c i (qtn.2 a);rw[qsh,qqt a,qsh,qqt b] at this;simpa using this
 ·rintro rfl i _
  simp
theorem zzb{t:TypeId}{n:Nat}(f:P.underlying t=some (.array n e))(b:P.underlying e=some (.int k))(c:P.plainKey e=true)(hi:(P.info? e).isSome=true)(a:P.cellsOf e=1)(l m:List Int)(d:l.length=n)(hm:m.length=n)(w:World):
 (binOp .eql t (.agg (za5 k l).toArray) (.agg (za5 k m).toArray)).run P w= .ok (.bool (l==m)) w:=by
 cases hq:P.info? e with
 |none=>rw[hq] at hi;cases hi
 |some i=>
  rw[run_eql_struct,run_equalIn_array w 9999 _ _ f hq,a,zi3 9998 b c l m w _ (fun i hi=>by have:=qtn.1 hi;omega),<-d,z8s (by omega)];simp[Result.andThen]
end
end Go.Hm
namespace Go.Proofs.Y
open Go.RowKit Go.Hm
def Cur(w:World)(g:Nat)(l:List Nat)(bad:Bool):Prop:=
 ∃A c,Blk w g 180 #[.slice A l.length c,.bool bad]/\l.length<=c/\c<=maxLen/\TR w 5 A l.length (zar .u8 l)/\(∀x∈l,x<256)/\(bad=true->l=[])
section
variable{w w':World}{g:Nat}{l:List Nat}{bad:Bool}
theorem Cur.lt(h:Cur w g l bad):g<w.heap.size:=by obtain⟨A,c,a,_⟩:=h;exact a.lt
theorem Cur.len(h:Cur w g l bad):l.length<=maxLen:=by obtain⟨A,c,_,a,b,_⟩:=h;omega
theorem Cur.below(h:Cur w g l bad)(b:Below w.heap.size w w'):Cur w' g l bad:=by obtain⟨A,c,a,d,e,f,i,j⟩:=h;exact⟨A,c,a.below b a.lt,d,e,f.below b,i,j⟩
theorem Cur.keep{a:Nat}{t:TypeId}{cs:Array Value}(h:Cur w g l bad)(d:w.grownBy w' (some a))(n:Blk w a t cs)(b:g≠a)(o:5≠t):Cur w' g l bad:=by obtain⟨A,c,e,f,i,j,k,m⟩:=h;exact⟨A,c,e.grown d (by simpa using b),f,i,j.keep d n o,k,m⟩
theorem Cur.blk(h:Cur w g l bad):∃cs,Blk w g 180 cs:=by obtain⟨A,c,a,_⟩:=h;exact⟨_,a⟩
end
def zdn(e0:Ending)(g:Nat)(l:List Nat)(bad:Bool)(w:World)(e:Ending)(w':World):Prop:=e=e0/\Cur w' g l bad/\w.grownBy w' (some g)
theorem zr8{w:World}{g i j:Nat}{x y:Value}:w.grownBy ((w.setCell ⟨g,i,none⟩ x).setCell ⟨g,j,none⟩ y) (some g):=
 ⟨rfl,rfl,rfl,by simp[World.setCell],fun k _ a=>(qwc _ _ _ _ (by intro e;exact a (by rw[e]))).trans (qwc _ _ _ _ (by intro e;exact a (by rw[e])))⟩
theorem zce{w:World}{g i:Nat}{x:Value}:w.grownBy (w.setCell ⟨g,i,none⟩ x) (some g):=
 ⟨rfl,rfl,rfl,by simp[World.setCell],fun k _ a=>qwc _ _ _ _ (by intro e;exact a (by rw[e]))⟩
theorem zim{w:World}{g:Nat}{l:List Nat}{bad:Bool}(h:Cur w g l bad):
 Calls Tryz.prog 116 #[.pointer (some ⟨g,0,none⟩)] w (zdn (.returned (.tuple #[])) g [] true w):=by
 obtain⟨A,c,a,j,k,m,n,o⟩:=h;have d:=a.cell 0;have e:=a.cell 1;have f:=a.frozen 0;have i:=a.frozen 1;simp at d e;have b:=qwk a;clear a;go_enter Tryz.func116,Tryz.ntmps116
 go_wp2
 go_end0
 refine⟨rfl,⟨none,0,?_,by simp,by simp[maxLen],TR.nil_,by simp,by simp⟩,zr8⟩;simpa using(b.out.set_ 0 (.slice none 0 0)).set_ 1 (.bool true)
def zuh(l:List Nat)(w:World)(e:Ending)(w':World):Prop:=e= .returned (.int .i64 (l.length:Int))/\w=w'
def zui(b:Bool)(w:World)(e:Ending)(w':World):Prop:=e= .returned (.bool b)/\w=w'
theorem qey{w:World}{g:Nat}{l:List Nat}{bad:Bool}(h:Cur w g l bad):Calls Tryz.prog 168 #[.pointer (some ⟨g,0,none⟩)] w (zuh l w):=by
 obtain⟨A,c,a,i,j,d,e,f⟩:=h;have b:=a.cell 0;simp at b;clear a d e f;go_enter Tryz.func168,Tryz.ntmps168
 go_wp2
 go_ret
 exact⟨rfl,rfl⟩
theorem zlc{w:World}{g:Nat}{l:List Nat}{bad:Bool}(h:Cur w g l bad):Calls Tryz.prog 98 #[.pointer (some ⟨g,0,none⟩)] w (zui bad w):=by
 obtain⟨A,c,a,i,j,d,e,f⟩:=h;have b:=a.cell 1;simp at b;clear a d e f;go_enter Tryz.func98,Tryz.ntmps98
 go_wp2
 go_ret
 exact⟨rfl,rfl⟩
theorem qkh{w:World}{g:Nat}{l:List Nat}{bad:Bool}(h:Cur w g l bad):Calls Tryz.prog 100 #[.pointer (some ⟨g,0,none⟩)] w (zui (!bad&&l.isEmpty) w):=by
 obtain⟨A,c,a,j,k,e,f,i⟩:=h;have b:=a.cell 0;have d:=a.cell 1;simp at b d;clear a e f i;cases bad
 ·go_enter Tryz.func100,Tryz.ntmps100
  go_wp2
  go_ret
  refine⟨?_,rfl⟩;cases l<;> simp;omega
 ·go_enter Tryz.func100,Tryz.ntmps100
  go_wp2
  go_ret
  exact⟨rfl,rfl⟩
def zl6(g:Nat)(l:List Nat)(n:Nat)(w:World)(e:Ending)(w':World):Prop:=
 ∃A c,e= .returned (.slice A n c)/\TR w' 5 A n (zar .u8 (l.take n))/\Cur w' g (l.drop n) false/\w.grownBy w' (some g)
theorem qez{w:World}{g:Nat}{l:List Nat}{n c:Nat}{A A':Option Addr}(a:Blk w g 180 #[.slice A l.length c,.bool false])(i:l.length<=c)(o:c<=maxLen)(d:TR w 5 A l.length (zar .u8 l))(j:∀x∈l,x<256)(f:n<=l.length)
 (k:A'=if c=n then A else A.map (·.add n)):zl6 g l n w (.returned (.slice A n c)) (w.setCell ⟨g,0,none⟩ (.slice A' (l.length-n) (c-n))):=by
 have b:w.grownBy (w.setCell ⟨g,0,none⟩ (.slice A' (l.length-n) (c-n))) (some g):=zce;have h:=d.take f;rw[zfa] at h;have e:=d.cut f i;rw[zeq,<-k] at e;refine⟨A,c,rfl,h.keep b a (by decide),⟨A',c-n,?_,by rw[qqw];omega,by omega,?_,fun x m=>j x (qte m),by simp⟩,b⟩
 ·rw[qqw]
  simpa using a.set_ 0 (.slice A' (l.length-n) (c-n))
 ·rw[qqw]
  exact e.keep b a (by decide)
theorem zl7{w:World}{g:Nat}{l:List Nat}{n:Nat}(h:Cur w g l false)(q:n<=l.length):Calls Tryz.prog 135 #[.pointer (some ⟨g,0,none⟩),.int .i64 (n:Int)] w (zl6 g l n w):=by
 obtain⟨A,c,e,p,i,j,k,_⟩:=h;have m:=e.cell 0;have o:=e.cell 1;have r:=e.frozen 0;simp at m o;have F:=qwk (qez (A':=if c=n then A else A.map (·.add n)) e p i j k q rfl);clear e j k;have f:=i;unfold maxLen at f;by_cases a:c=n
 ·subst a
  go_enter Tryz.func135,Tryz.ntmps135
  go_wp2
  all_goals first|(exfalso;omega)|go_ret
  have b:=F.out;rw[show l.length-c=0 by omega,qsz] at b;simpa using b
 ·have d:=qwk a
  clear a;go_enter Tryz.func135,Tryz.ntmps135
  go_wp2
  all_goals first|(exfalso;have:=d.out;omega)|go_ret
  have b:=F.out;rw[if_neg d.out] at b;exact b
theorem zuj{w:World}{g:Nat}{l:List Nat}{bad:Bool}{n:Int}(h:Cur w g l bad)(a:bad=true\/n<0\/(l.length:Int)<n)(q: -9223372036854775808<=n)(r:n<=9223372036854775807):
 Calls Tryz.prog 135 #[.pointer (some ⟨g,0,none⟩),.int .i64 n] w (zdn (.returned (.slice none 0 0)) g [] true w):=by
 have hF:=zim h;have f:=qwk hF;clear hF;obtain⟨A,c,i,_,_,_,_,_⟩:=h;have m:=i.cell 0;have o:=i.cell 1;simp at m o;clear i;cases bad
 ·by_cases j:n<0
  ·clear a
   go_enter Tryz.func135,Tryz.ntmps135
   go_wp2_with (go_at_call 116;refine f.out.mono ?_;rintro e w' ⟨rfl,b,d⟩)
   go_ret
   exact⟨rfl,b,d⟩
  ·have p:(l.length:Int)<n:=by rcases a with a|a|a<;> first|cases a|omega
   clear a;have k:0<=n:=by omega
   clear j;go_enter Tryz.func135,Tryz.ntmps135
   go_wp2_with (go_at_call 116;refine f.out.mono ?_;rintro e w' ⟨rfl,b,d⟩)
   go_ret
   exact⟨rfl,b,d⟩
 ·clear a
  go_enter Tryz.func135,Tryz.ntmps135
  go_wp2_with (go_at_call 116;refine f.out.mono ?_;rintro e w' ⟨rfl,b,d⟩)
  go_ret
  exact⟨rfl,b,d⟩
def z8z(l:List Nat)(w:World)(e:Ending)(w':World):Prop:=
 ∃A n c,e= .returned (.slice A n c)/\Own w' w.heap.size 5 (.slice A n c) (zar .u8 l)/\Below w.heap.size w w'
theorem zht{w:World}{A:Option Addr}{n c:Nat}{l:List Nat}(h:Reads w w.heap.size 1 A n (zar .u8 l))(p:n<=140737488355328):
 Calls Tryz.prog 42 #[.slice A n c] w (z8z l w):=by
 obtain rfl:=h.len;rcases A with _|d
 ·have b:l.length=0:=by
   rcases qrg l.length with a|a
   ·exact a
   ·obtain⟨d,i,_⟩:=h.2 a
    cases i
  obtain rfl:l=[]:=qrh b;have j:=fun W:World=>qws (P:=Tryz.prog) W 24 5 none 0 c 0 0 elB.ht
  go_enter Tryz.func42,Tryz.ntmps42
  go_wp2
  go_ret
  exact⟨none,0,0,rfl,qw0,qwd _ _⟩
 ·have j:=fun W:World=>qws (P:=Tryz.prog) W 24 5 (some d) l.length c 0 0 elB.ht
  go_enter Tryz.func42,Tryz.ntmps42
  go_wp2_with (first
   |(refine zaq elB rfl (.tmp 5) (.tmp 6) rfl (W:=w) (B:=w.heap.size) (k:= .u8) (l:=[]) (l2:=l) (c2:=c) (Own.empty _ _) ((h.alloc (qq0 _) _).more (by simp)) rfl rfl ((qwd _ _).alloc (qq0 _) _) (qq0 _) (by simp) (by omega) (by simp only[maxLen];omega) ?_
     simp only[qrs,qrr];intro e f w' q r m s o t))
  go_ret
  exact⟨e,_,f,rfl,m,o⟩
def qe0(l:List Nat)(w:World)(e:Ending)(w':World):Prop:=
 ∃g,e= .returned (.pointer (some ⟨g,0,none⟩))/\w.heap.size<=g/\Cur w' g l false/\Below w.heap.size w w'
theorem zuk{w:World}{A:Option Addr}{n c:Nat}{l:List Nat}(h:Reads w w.heap.size 1 A n (zar .u8 l))(j:n<=140737488355328)(i:∀x∈l,x<256):
 Calls Tryz.prog 94 #[.slice A n c] w (qe0 l w):=by
 obtain rfl:=h.len;go_enter Tryz.func94,Tryz.ntmps94
 go_wp2_with (go_at_call 42;refine(zht h j).mono ?_;rintro e o ⟨d,k,f,rfl,a,b⟩)
 go_ret
 have m:=a.cap;obtain rfl:k=l.length:=by have:=a.len;rwa[zaa] at this
 exact⟨_,rfl,b.size,⟨d,f,qw1 _ _ _,by omega,by omega,(qw3 a).alloc _,i,by simp⟩,b.alloc b.size _⟩
def qe1(g:Nat)(l:List Nat)(n:Nat)(w:World)(e:Ending)(w':World):Prop:=
 ∃A c,e= .returned (.slice A n c)/\Own w' w.heap.size 5 (.slice A n c) (zar .u8 (l.take n))/\Cur w' g (l.drop n) false/\w.grownBy w' (some g)
theorem zin{w c e:World}{row:Option Nat}(h:w.grownBy c row)(a:Below c.heap.size c e):w.grownBy e row:=
 ⟨a.os.trans h.os,a.tape.trans h.tape,a.output.trans h.output,qqs h.size a.size,fun k d b=>(a.block k (qqv d h.size)).trans (h.block k d b)⟩
theorem z80{w:World}{g:Nat}{l:List Nat}{n:Nat}(h:Cur w g l false)(o:n<=l.length)(p:n<=140737488355328):
 Calls Tryz.prog 136 #[.pointer (some ⟨g,0,none⟩),.int .i64 (n:Int)] w (qe1 g l n w):=by
 have a:(l.take n).length=n:=by rw[qqx];omega
 go_enter Tryz.func136,Tryz.ntmps136
 go_wp2_with (first
  |(go_at_call 135;refine(zl7 h o).mono ?_;rintro e v ⟨u,j,rfl,q,r,b⟩
    have s:=q.1;have C:=qwk (zht (c:=j) s p);have m:=b.size)
  |(go_at_call 42;refine C.out.mono ?_;rintro e x ⟨i,t,k,rfl,d,f⟩))
 go_ret
 obtain rfl:t=n:=by have:=d.len;rwa[zaa,a] at this
 exact⟨i,k,rfl,d.base_le m,r.below f,zin b f⟩
theorem qe2{w:World}{g:Nat}{l:List Nat}{bad:Bool}{n:Int}(h:Cur w g l bad)(c:bad=true\/n<0\/(l.length:Int)<n)(a: -9223372036854775808<=n)(b:n<=9223372036854775807):
 Calls Tryz.prog 136 #[.pointer (some ⟨g,0,none⟩),.int .i64 n] w (zdn (.returned (.slice none 0 0)) g [] true w):=by
 have d:=qwk (zuj h c a b);clear c a b;have j:=fun W:World=>qws (P:=Tryz.prog) W 24 5 none 0 0 0 0 elB.ht
 go_enter Tryz.func136,Tryz.ntmps136
 go_wp2_with (first
  |(go_at_call 135;refine d.out.mono ?_;rintro e k ⟨rfl,f,i⟩)
  |(go_at_call 42;go_in))
 go_ret
 exact⟨rfl,f,i⟩
end Go.Proofs.Y
namespace Go.Hm
open Go Go.RowKit
def zja(x y:Int):Int:=if x<y then-1 else if y<x then 1 else 0
end Go.Hm
namespace Go.Proofs.Y
open Go.RowKit Go.Hm
theorem qad{w:World}{x:Int}:Calls Tryz.prog 184 #[.int .i64 x] w (zd5 (.bool false) w):=by
 go_enter Tryz.func184,Tryz.ntmps184
 go_wp2
 go_ret
 exact⟨by simp,rfl⟩
theorem cmpI_any{w:World}{x y:Int}:Calls Tryz.prog 164 #[.int .i64 x,.int .i64 y] w (zd5 (.int .i64 (zja x y)) w):=by
 have P:=fun z:Int=>qwk (qad (w:=w) (x:=z))
 have b:=qwk (fun(h:x<y)=>show zja x y= -1 by rw[zja,if_pos h]);have c:=qwk (fun(h:y<x)=>show zja x y=1 by rw[zja,if_neg (by omega),if_pos h]);have d:=qwk (fun(h: ¬x<y) (f: ¬y<x)=>show zja x y=0 by rw[zja,if_neg h,if_neg f]);generalize zja x y=O at*;by_cases g:x<y
 ·have a:=qwk (b.out g)
  clear b c d;go_enter Tryz.func164,Tryz.ntmps164
  go_wp2_with (first|(go_at_call 184;refine((P _).out).mono ?_;rintro e i ⟨rfl,rfl⟩))
  go_ret
  exact⟨by rw[a.out];rfl,rfl⟩
 ·by_cases f:y<x
  ·have a:=qwk (c.out f)
   clear b c d;go_enter Tryz.func164,Tryz.ntmps164
   go_wp2_with (first|(go_at_call 184;refine((P _).out).mono ?_;rintro e i ⟨rfl,rfl⟩))
   go_ret
   exact⟨by rw[a.out];rfl,rfl⟩
  ·have a:=qwk (d.out g f)
   clear b c d;go_enter Tryz.func164,Tryz.ntmps164
   go_wp2_with (first|(go_at_call 184;refine((P _).out).mono ?_;rintro e i ⟨rfl,rfl⟩))
   go_ret
   exact⟨by rw[a.out];rfl,rfl⟩
end Go.Proofs.Y
