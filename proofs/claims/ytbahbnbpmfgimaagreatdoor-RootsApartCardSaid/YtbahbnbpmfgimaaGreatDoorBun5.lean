/- Merged. -/
import Derived.Test.YtbahbnbpmfgimaaGreatDoorBun3
import Derived.Test.YtbahbnbpmfgimaaGreatDoorBun4
set_option maxHeartbeats 200000
namespace Go.Proofs.Y
open Go.RowKit Go.Hm
theorem qd9:Tryz.prog.underlying 9=some .string:=by kernel_rfl
theorem elS:ElT Tryz.prog 236 9 (.string ⟨#[]⟩) 1 16:=⟨by kernel_rfl,by kernel_rfl,rfl,by omega⟩
def DrewPost(v:Value)(w:World)(e:Ending)(w':World):Prop:=e= .returned v/\ ∃k,w'=w.drewN k
def zal(v:Value)(w:World)(e:Ending)(w':World):Prop:=e= .returned v/\New w w'
def zdl(v:Value)(w:World)(e:Ending)(w':World):Prop:=e= .returned v/\w=w'
theorem DrewPost.new{v:Value}{w w':World}{e:Ending}(h:DrewPost v w e w'):zal v w e w':=by obtain⟨h1,k,rfl⟩:=h;exact⟨h1,zg1 w k⟩
def OptB(o:Option (List Nat))(w:World)(e:Ending)(w':World):Prop:=
 match o with
 |none=>e= .returned (.tuple #[.slice none 0 0,.bool false])/\Below w.heap.size w w'
 |some l=>∃A n c,e= .returned (.tuple #[.slice A n c,.bool true])/\Own w' w.heap.size 5 (.slice A n c) (zao .u8 l)/\Below w.heap.size w w'
theorem OptB.u{o:Option (List Nat)}{w w':World}{e:Ending}(h:OptB o w e w'):
 ∃A n c,e= .returned (.tuple #[.slice A n c,.bool o.isSome])/\Own w' w.heap.size 5 (.slice A n c) (zao .u8 (o.getD []))/\Below w.heap.size w w':=by
 cases o with
 |none=>exact⟨none,0,0,h.1,Own.nil_,h.2⟩
 |some l=>exact h
def OptW(o:Option (List Nat))(w:World)(e:Ending)(w':World):Prop:=
 match o with
 |none=>e= .returned (.tuple #[.slice none 0 0,.bool false])/\Below w.heap.size w w'
 |some l=>∃A n c,e= .returned (.tuple #[.slice A n c,.bool true])/\Own w' w.heap.size 138 (.slice A n c) (zao .u64 l)/\Below w.heap.size w w'
theorem OptW.u{o:Option (List Nat)}{w w':World}{e:Ending}(h:OptW o w e w'):
 ∃A n c,e= .returned (.tuple #[.slice A n c,.bool o.isSome])/\Own w' w.heap.size 138 (.slice A n c) (zao .u64 (o.getD []))/\Below w.heap.size w w':=by
 cases o with
 |none=>exact⟨none,0,0,h.1,Own.nil_,h.2⟩
 |some l=>exact h
def OptT(o:Option (List (List Nat)))(w:World)(e:Ending)(w':World):Prop:=
 match o with
 |none=>e= .returned (.tuple #[.slice none 0 0,.bool false])/\Below w.heap.size w w'
 |some l=>∃A n c,e= .returned (.tuple #[.slice A n c,.bool true])/\Own w' w.heap.size 9 (.slice A n c) (zqx l)/\Below w.heap.size w w'
theorem OptT.u{o:Option (List (List Nat))}{w w':World}{e:Ending}(h:OptT o w e w'):
 ∃A n c,e= .returned (.tuple #[.slice A n c,.bool o.isSome])/\Own w' w.heap.size 9 (.slice A n c) (zqx (o.getD []))/\Below w.heap.size w w':=by
 cases o with
 |none=>exact⟨none,0,0,h.1,Own.nil_,h.2⟩
 |some l=>exact h
end Go.Proofs.Y
namespace Go.Hm
open Go Go.RowKit
def U32(x:Int):Prop:=0<=x/\x<4294967296
def rot(x:Int)(n:Nat):Int:=(x/2^n+x*2^(32-n)%4294967296)%4294967296
theorem z4x{n:Nat}(hn:n<=32):2^n*2^(32-n)=4294967296:=by rw[<-Nat.pow_add,show n+(32-n)=32 by omega]
theorem qhr{x:Int}{n:Nat}(hx:U32 x)(h2:n<=31):bits .or .u32 (x/2^n) (x*2^(32-n)%4294967296)=rot x n:=by
 obtain⟨h0,h3⟩:=hx;obtain⟨X,rfl⟩:=Int.eq_ofNat_of_zero_le h0;have hX:X<4294967296:=by omega
 have hp:=z4x (show n<=32 by omega);have hm:X*2^(32-n)%4294967296=(X%2^n)*2^(32-n):=by rw[<-hp,Nat.mul_mod_mul_right]
 have hd:X/2^n<2^(32-n):=Nat.div_lt_of_lt_mul (by rw[hp];exact hX);have hp1:=Nat.two_pow_pos n;have hr:X%2^n<2^n:=Nat.mod_lt _ hp1;have hs:X/2^n+(X%2^n)*2^(32-n)<4294967296:=by have h4:(X%2^n+1)*2^(32-n)<=2^n*2^(32-n):=Nat.mul_le_mul_right _ hr;rw[hp,Nat.succ_mul] at h4;omega
 have e1:((X:Int)/2^n)=((X/2^n:Nat):Int):=by simp
 have e2:((X:Int)*2^(32-n)%4294967296)=((X*2^(32-n)%4294967296:Nat):Int):=by simp
 unfold rot;rw[e1,e2,hm,u32_or_nat _ _ (by generalize X%2^n*2^(32-n)=b at*;omega) (by generalize X/2^n=a at*;omega),Nat.or_comm,zqy _ _ _ hd];clear e1 e2 hm hd hr hp;generalize X/2^n=a at*;generalize X%2^n*2^(32-n)=b at*;omega
def zt6(a b c d:Nat):Int:=(((a*256+b)*256+c)*256+d:Nat)
theorem qfd{a b c d:Nat}(ha:a<256)(hb:b<256)(hc:c<256)(hd:d<256):U32 (zt6 a b c d):=by unfold zt6 U32;omega
theorem qfe{a b c d:Nat}(ha:a<256)(hb:b<256)(hc:c<256)(hd:d<256):
 bits .or .u32 (bits .or .u32 (bits .or .u32 (IntKind.u32.wrap (IntKind.u32.wrap (a:Int)*16777216)) (IntKind.u32.wrap (IntKind.u32.wrap (b:Int)*65536))) (IntKind.u32.wrap (IntKind.u32.wrap (c:Int)*256))) (IntKind.u32.wrap (d:Int))=zt6 a b c d:=by
 have e1:IntKind.u32.wrap (IntKind.u32.wrap (a:Int)*16777216)=((a*16777216:Nat):Int):=by rw[IntKind.wrap_u32',IntKind.wrap_u32'];omega
 have e2:IntKind.u32.wrap (IntKind.u32.wrap (b:Int)*65536)=((b*65536:Nat):Int):=by rw[IntKind.wrap_u32',IntKind.wrap_u32'];omega
 have e3:IntKind.u32.wrap (IntKind.u32.wrap (c:Int)*256)=((c*256:Nat):Int):=by rw[IntKind.wrap_u32',IntKind.wrap_u32'];omega
 have e4:IntKind.u32.wrap (d:Int)=((d:Nat):Int):=by rw[IntKind.wrap_u32'];omega
 have p24:(2:Nat)^24=16777216:=by decide
 have p16:(2:Nat)^16=65536:=by decide
 have p8:(2:Nat)^8=256:=by decide
 have o1:a*16777216 ||| b*65536=(a*256+b)*65536:=by rw[<-p24,zqy a (b*65536) 24 (by rw[p24];omega),p24,Nat.add_mul,Nat.mul_assoc]
 have o2:(a*256+b)*65536 ||| c*256=((a*256+b)*256+c)*256:=by rw[<-p16,zqy (a*256+b) (c*256) 16 (by rw[p16];omega),p16,Nat.add_mul ((a*256+b)*256),Nat.mul_assoc]
 have o3:((a*256+b)*256+c)*256 ||| d=((a*256+b)*256+c)*256+d:=by have:=zqy ((a*256+b)*256+c) d 8 (by rw[p8];exact hd);rwa[p8] at this
 rw[e1,e2,e3,e4,u32_or_nat _ _ (by omega) (by omega),o1,u32_or_nat _ _ (by omega) (by omega),o2,u32_or_nat _ _ (by omega) (by omega),o3];rfl
def zgi(B:List Nat):List Int:=(List.range 16).map fun k=>zt6 (B.getD (4*k) 0) (B.getD (4*k+1) 0) (B.getD (4*k+2) 0) (B.getD (4*k+3) 0)
def z1n(l:List Int):Int:=
 IntKind.u32.wrap (IntKind.u32.wrap (IntKind.u32.wrap (l.getD (l.length-16) 0+bits .xor .u32 (bits .xor .u32 (rot (l.getD (l.length-15) 0) 7) (rot (l.getD (l.length-15) 0) 18)) (l.getD (l.length-15) 0/8))+l.getD (l.length-7) 0)
  +bits .xor .u32 (bits .xor .u32 (rot (l.getD (l.length-2) 0) 17) (rot (l.getD (l.length-2) 0) 19)) (l.getD (l.length-2) 0/1024))
def zbl(B:List Nat):Nat->List Int
 |0=>zgi B
 |j+1=>zbl B j++[z1n (zbl B j)]
def zcp(B:List Nat):List Int:=zbl B 48
theorem zlt(B:List Nat)(j:Nat):(zbl B j).length=16+j:=by
 induction j with
 |zero=>simp[zbl,zgi]
 |succ j ih=>simp[zbl,ih];omega
theorem qhs(x:Int):U32 (IntKind.u32.wrap x):=by rw[IntKind.wrap_u32'];unfold U32;omega
theorem zza(B:List Nat)(h8:∀x∈B,x<256)(j:Nat):∀x∈zbl B j,U32 x:=by
 induction j with
 |zero=>
  intro x hx;simp only[zbl,zgi,List.mem_map] at hx;obtain⟨k,_,rfl⟩:=hx;exact qfd (zfg B _ h8) (zfg B _ h8) (zfg B _ h8) (zfg B _ h8)
 |succ j ih=>
  intro x hx;simp only[zbl,List.mem_append,List.mem_singleton] at hx;rcases hx with hx|rfl
  ·exact ih x hx
  ·exact qhs _
theorem qea{l:List Int}{k:Nat}(h:∀x∈l,U32 x):U32 (l.getD k 0):=by
 by_cases hk:k<l.length
 ·rw[List.getD_eq_getElem?_getD,List.getElem?_eq_getElem hk]
  exact h _ (List.getElem_mem hk)
 ·rw[List.getD_eq_getElem?_getD,List.getElem?_eq_none (by omega)]
  simp[U32]
def zw1(l:List Int):List Int:=l++List.replicate (64-l.length) 0
theorem zzb{l:List Int}(h:l.length<=64):(zw1 l).length=64:=by simp[zw1];omega
theorem zzc{l:List Int}(h:l.length<64)(x:Int):(zw1 l).set l.length x=zw1 (l++[x]):=by unfold zw1;rw[List.set_append_right _ _ (Nat.le_refl _),Nat.sub_self,show 64-l.length=(64-(l++[x]).length)+1 by simp;omega,List.replicate_succ,List.set_cons_zero];simp
theorem qak{l:List Int}{k:Nat}(h:k<l.length):(zw1 l).getD k 0=l.getD k 0:=by unfold zw1;rw[List.getD_eq_getElem?_getD,List.getElem?_append_left h,<-List.getD_eq_getElem?_getD]
theorem z4y{l:List Int}(h:l.length=64):zw1 l=l:=by simp[zw1,h]
theorem zw2{B:List Nat}{k:Nat}(h:k<16):(zgi B).take (k+1)=(zgi B).take k++[zt6 (B.getD (4*k) 0) (B.getD (4*k+1) 0) (B.getD (4*k+2) 0) (B.getD (4*k+3) 0)]:=by
 have hl:(zgi B).length=16:=by simp[zgi]
 rw[zac _ k 0 (by omega)];congr 1
 simp[zgi,h]
abbrev S8:=Int × Int × Int × Int × Int × Int × Int × Int
def zbu(s:S8):Array Value:= #[.int .u32 s.1,.int .u32 s.2.1,.int .u32 s.2.2.1,.int .u32 s.2.2.2.1,.int .u32 s.2.2.2.2.1,.int .u32 s.2.2.2.2.2.1,.int .u32 s.2.2.2.2.2.2.1,.int .u32 s.2.2.2.2.2.2.2]
def pI(e f g i k w:Int):Int:=
 IntKind.u32.wrap (IntKind.u32.wrap (IntKind.u32.wrap (IntKind.u32.wrap (i+bits .xor .u32 (bits .xor .u32 (rot e 6) (rot e 11)) (rot e 25))+bits .xor .u32 (bits .and .u32 e f) (bits .and .u32 (bits .xor .u32 (if IntKind.u32.signed=true then-1 else IntKind.u32.max) e) g))+k)+w)
def qI(a b c:Int):Int:=(bits .xor .u32 (bits .xor .u32 (rot a 2) (rot a 13)) (rot a 22)+bits .xor .u32 (bits .xor .u32 (bits .and .u32 a b) (bits .and .u32 a c)) (bits .and .u32 b c))%4294967296
def qff(k w:Int)(s:S8):S8:=
 match s with
 |(a,b,c,d,e,f,g,i)=>((pI e f g i k w+qI a b c)%4294967296,a,b,c,(d+pI e f g i k w)%4294967296,e,f,g)
def kI:List Int:=[1116352408,1899447441,3049323471,3921009573,961987163,1508970993,2453635748,2870763221,3624381080,310598401,607225278,1426881987,1925078388,2162078206,2614888103,3248222580,3835390401,4022224774,264347078,604807628,770255983,1249150122,1555081692,1996064986,2554220882,2821834349,2952996808,3210313671,3336571891,3584528711,113926993,338241895,666307205,773529912,1294757372,1396182291,1695183700,1986661051,2177026350,2456956037,2730485921,2820302411,3259730800,3345764771,3516065817,3600352804,4094571909,275423344,430227734,506948616,659060556,883997877,958139571,1322822218,1537002063,1747873779,1955562222,2024104815,2227730452,2361852424,2428436474,2756734187,3204031479,3329325298]
def zfb(W:List Int)(s:S8):Nat->S8
 |0=>s
 |t+1=>qff (kI.getD t 0) (W.getD t 0) (zfb W s t)
def qfg(s r:S8):S8:=((s.1+r.1)%4294967296,(s.2.1+r.2.1)%4294967296,(s.2.2.1+r.2.2.1)%4294967296,(s.2.2.2.1+r.2.2.2.1)%4294967296,(s.2.2.2.2.1+r.2.2.2.2.1)%4294967296,(s.2.2.2.2.2.1+r.2.2.2.2.2.1)%4294967296,(s.2.2.2.2.2.2.1+r.2.2.2.2.2.2.1)%4294967296,(s.2.2.2.2.2.2.2+r.2.2.2.2.2.2.2)%4294967296)
def z1o(s:S8)(B:List Nat):S8:=qfg s (zfb (zcp B) s 64)
def OkS(s:S8):Prop:=U32 s.1/\U32 s.2.1/\U32 s.2.2.1/\U32 s.2.2.2.1/\U32 s.2.2.2.2.1/\U32 s.2.2.2.2.2.1/\U32 s.2.2.2.2.2.2.1/\U32 s.2.2.2.2.2.2.2
theorem zqh(x:Int):U32 (x%4294967296):=by unfold U32;omega
theorem qal(s:S8)(B:List Nat):OkS (z1o s B):=⟨zqh _,zqh _,zqh _,zqh _,zqh _,zqh _,zqh _,zqh _⟩
theorem z4z{W:List Int}{s:S8}(h:OkS s)(t:Nat):OkS (zfb W s t):=by
 induction t with
 |zero=>exact h
 |succ t ih=>
  obtain⟨h1,h2,h3,h4,h5,h6,h7,h8⟩:=ih;exact⟨zqh _,h1,h2,h3,zqh _,h5,h6,h7⟩
theorem qam(B:List Nat)(h8:∀x∈B,x<256):∀x∈zcp B,U32 x:=zza B h8 48
theorem zqz(B:List Nat):(zcp B).length=64:=zlt B 48
def zjt:S8:=(1779033703,3144134277,1013904242,2773480762,1359893119,2600822924,528734635,1541459225)
theorem z40:OkS zjt:=by unfold OkS zjt U32;simp
def zf1(n:Nat):Nat:=63-(n+8)%64
def qht(n k:Nat):Nat:=8*n/2^(56-8*k)%256
def zic(n:Nat):List Nat:=(List.range 8).map (qht n)
def zt7(n:Nat):List Nat:=128::(List.replicate (zf1 n) 0++zic n)
theorem znh(n:Nat):(zt7 n).length=1+zf1 n+8:=by simp[zt7,zic];omega
theorem qfh(n:Nat):∀x∈zt7 n,x<256:=by
 intro x hx;simp only[zt7,List.mem_cons,List.mem_append,List.mem_replicate,zic,List.mem_map] at hx;rcases hx with rfl|⟨_,rfl⟩|⟨k,_,rfl⟩
 ·omega
 ·omega
 ·unfold qht;omega
theorem qan(n:Nat):(n+(zt7 n).length)%64=0:=by rw[znh];unfold zf1;omega
def qfi(n:Int):List Nat:=if 0<=n/\n<=2147483647 then zt7 n.toNat else []
open Go Go.RowKit
section
variable{w w':World}{base sz n:Nat}{e:TypeId}{v:Value}{xs:List Value}
theorem z5s{B:Nat}(h:w.ownsRow base e sz v n xs)(hb:Below B w w')(hB:w.heap.size<=B):w'.ownsRow base e sz v n xs:=by
 refine⟨h.1,?_⟩;rcases h.2 with hn|⟨g,cap,cur,rfl,hbg,hgg,rest⟩
 ·exact .inl hn
 ·refine .inr ⟨g,cap,cur,rfl,hbg,?_,rest⟩
  rw[hb.block g (Nat.lt_of_lt_of_le (Array.getElem?_eq_some_iff.1 hgg).1 hB)];exact hgg
theorem za5(h:w.ownsRow base e sz v n xs)(hb:New w w'):w'.ownsRow base e sz v n xs:=z5s h hb (Nat.le_refl _)
theorem zeq{b':Nat}(h:w.ownsRow base e sz v n xs)(hb:b'<=base):w.ownsRow b' e sz v n xs:=by
 refine⟨h.1,?_⟩;rcases h.2 with hn|⟨g,cap,cur,hv,hbg,rest⟩
 ·exact .inl hn
 ·exact .inr ⟨g,cap,cur,hv,Nat.le_trans hb hbg,rest⟩
theorem zd8(h:w.ownsRow base e sz v n xs):∃A c,v= .slice A n c/\n<=c/\c<=maxLen:=by
 rcases h.2 with⟨hv,hn⟩|⟨g,cap,cur,hv,_,_,hc,hm,_⟩
 ·exact⟨none,0,by rw[hv,hn],by omega,by simp[maxLen]⟩
 ·exact⟨_,_,hv,hc,hm⟩
theorem zdo:w.ownsRow base e sz (.slice none 0 0) 0 []:=⟨by simp,.inl ⟨rfl,rfl⟩⟩
theorem zas{g:Nat}{t:TypeId}{cs:Array Value}(h:w.ownsRow base e sz v n xs)(hg:Blk w g t cs)(hne:e≠t):v.ownBlock≠some g:=by
 rcases h.2 with⟨rfl,_⟩|⟨g',cap,cur,rfl,_,hh,_⟩
 ·simp[Value.ownBlock]
 ·intro he
  have:g'=g:=by simpa[Value.ownBlock] using he
  subst this;exact Blk.ne_ (t:=e) hh hg hne rfl
end
theorem z1u(a b c:Value)(n:Nat):(madeCells #[a,b,c] (n*3)).toList=(List.replicate n [a,b,c]).flatten:=by
 induction n with
 |zero=>simp[madeCells]
 |succ n ih=>
  rw[List.replicate_succ',List.flatten_append,<-ih];have e:∀m,m%3=0->(madeCells #[a,b,c] (m+3)).toList=(madeCells #[a,b,c] m).toList++[a,b,c]:=by intro m hm;simp only[madeCells,Array.toList_map,Array.toList_range,List.range_succ,List.map_append,List.map_cons,List.map_nil,List.append_assoc,List.cons_append,List.nil_append,List.size_toArray,List.length_cons,List.length_nil];rw[hm,show(m+1)%3=1 by omega,show(m+2)%3=2 by omega];rfl
  rw[Nat.succ_mul,e (n*3) (by omega)];simp
section
variable{P:Program}{ops:Array Oper}{rest:List Oper}{o:Oper}{a:Act}{Q:Exit->Act->World->Prop}
theorem zdp{w:World}{t e:TypeId}{z:Value}{sz bytes:Nat}(E:ElT P t e z sz bytes)(hgd:o.guard=none)(s x:Operand)
 (ho:o.op= .call {callee:= .builtin .append,args:= #[s,x],argTypes:= #[t,t]})
 {W:World}{B base n:Nat}{v:Value}{us xs:List Value}(hown:w.ownsRow base e sz v n xs)(hs:a.eval s=v)(hx:a.eval x= .slice (some ⟨w.heap.size,0,none⟩) 1 1)
 (hb:Below B W w)(hbB:B<=base)(hbase:base<=w.heap.size)(hus:us.length=sz)(h1:∀u∈us,u.oneCell'=true)
 (hn:(n+1)*bytes<=140737488355328)(hm:n+1<=maxLen)
 (h:∀A' c' w',n+1<=c'->c'<=maxLen->w'.ownsRow base e sz (.slice A' (n+1) c') (n+1) (xs++us)->w.grownBy w' v.ownBlock->Below B W w'->w.heap.size<w'.heap.size->
  (Value.ownBlock (.slice A' (n+1) c')=v.ownBlock\/ ∃g,Value.ownBlock (.slice A' (n+1) c')=some g/\w.heap.size<=g)->wpList P ops Q rest (a.put o.dst (.slice A' (n+1) c')) w'):
 wpList P ops Q (o::rest) a (w.alloc (.cells us.toArray e)):=by
 obtain⟨i,hi,hz0,hz1,hz2⟩:=info_parts E.hi;refine wpList_append_own_at _ hgd s x t ho base e i z sz bytes E.ht hi hz0 hz1 hz2 E.hz E.hs v n xs hs (World.ownsRow.alloc hown _) ⟨w.heap.size,0,none⟩ 1 1 us hx (by omega) ?_ h1 hm hn (by simp;omega) ?_
 ·have:=World.news_of_block (heap_alloc_new w (.cells us.toArray e))
  simpa using this
 intro v' w' hown' hg _ hat;obtain⟨A',c',rfl,hc1,hc2⟩:=zd8 hown';have hg2:w.grownBy w' v.ownBlock:=(World.grownBy_alloc w (.cells us.toArray e) v.ownBlock).trans hg;have hsz:=hg.size;simp at hsz;refine h A' c' w' hc1 hc2 hown' hg2 (hb.grown hg2 (Nat.le_trans hbB hbase) (fun k hk=>by have:=(World.ownsRow.lt hown k hk).1;omega)) (by omega) ?_;rcases hat with e1|e1
 ·exact .inl e1
 ·exact .inr ⟨_,e1,by simp⟩
theorem z1v{w:World}{t e:TypeId}{x y z:Value}{bytes:Nat}(E:ElT P t e (.agg #[x,y,z]) 3 bytes)(hgd:o.guard=none)(lo co:Operand)(ho:o.op=Op.makeSlice t lo co)
 {W:World}{B:Nat}{kl kc:IntKind}{L C:Int}(n:Nat)(hl:a.eval lo= .int kl L)(hc:a.eval co= .int kc C)(hL:L=(n:Int))(hC:C=(n:Int))(hb:Below B W w)(hbase:B<=w.heap.size)
 (hn:n*bytes<=140737488355328)(hm:n<=maxLen)
 (h:∀w',w'.ownsRow w.heap.size e 3 (.slice (some ⟨w.heap.size,0,none⟩) n n) n (List.replicate n [x,y,z]).flatten->w.grownBy w' none->Below B W w'->w'.heap.size=w.heap.size+1->wpList P ops Q rest (a.put o.dst (.slice (some ⟨w.heap.size,0,none⟩) n n)) w'):
 wpList P ops Q (o::rest) a w:=by
 obtain⟨i,hi,hz0,hs1,hb1⟩:=info_parts E.hi;subst hL hC;have hmC:(n:Int)<=9223372036854775807:=by have h:=hm;simp only[maxLen] at h;omega
 have hbC:(i.bytes:Int)*(n:Int)<=281474976710656:=by
  have h:((i.bytes*n:Nat):Int)<=281474976710656:=by rw[hb1,Nat.mul_comm];omega
  rwa[Int.natCast_mul] at h
 have hrun:=run_make (P:=P) w t e i (.agg #[x,y,z]) E.ht hi hz0 kl kc (n:Int) (n:Int) (by omega) (by omega) hbC hmC;rw[Int.toNat_natCast,hs1] at hrun;refine wpList_plain hgd fun K hK=>?_
 unfold Oper.wp;simp[execOp,ho,hl,hc,hrun,Result.andThen];refine hK _ _ (h _ ?_ (World.grownBy_alloc _ _ _) (hb.alloc hbase _) (by simp));refine⟨by simp,.inr ⟨_,n,_,rfl,Nat.le_refl _,heap_alloc_new w _,Nat.le_refl _,hm,by simp[size_madeCells],?_⟩⟩;rw[List.take_of_length_le (by simp[size_madeCells])];exact z1u x y z n
end
theorem z5t{w w' W:World}{gc gm:Nat}(hb:w.grownBy w' (some gc))(hg:w'.grownBy W (some gm))(hle:w.heap.size<=gm):w.grownBy W (some gc):=
 ⟨hg.os.trans hb.os,hg.tape.trans hb.tape,hg.output.trans hb.output,Nat.le_trans hb.size hg.size,fun k hk hne=>(hg.block k (Nat.lt_of_lt_of_le hk hb.size) (fun e=>by injection e with e;omega)).trans (hb.block k hk hne)⟩
theorem zw7{w:World}{base:Nat}{e:TypeId}{g n c sz:Nat}{xs:List Value}(h:w.ownsRow base e sz (.slice (some ⟨g,0,none⟩) n c) n xs):∃cs,Blk w g e cs:=by
 rcases h.2 with⟨hv,_⟩|⟨g',cap,cur,hv,_,hh,_⟩
 ·cases hv
 ·injection hv with e1 _ _
  injection e1 with e1;injection e1 with e1;subst e1;exact⟨cur,hh⟩
theorem qa4{A B:List Value}{x y z a b c:Value}{m:Nat}(h:A.length=m):(((A++([x,y,z]++B)).set m a).set (m+1) b).set (m+2) c=A++([a,b,c]++B):=by subst h;rw[List.set_append_right _ _ (Nat.le_refl _),List.set_append_right _ _ (by omega),List.set_append_right _ _ (by omega)];simp
theorem qa5{w:World}{base:Nat}{e:TypeId}{g n c m:Nat}{A B:List Value}{x y z a b d:Value}(h:w.ownsRow base e 3 (.slice (some ⟨g,0,none⟩) n c) n (A++([x,y,z]++B)))(hm:A.length=m):
 ∃W,W=((w.setCell ⟨g,m,none⟩ a).setCell ⟨g,m+1,none⟩ b).setCell ⟨g,m+2,none⟩ d/\W.ownsRow base e 3 (.slice (some ⟨g,0,none⟩) n c) n (A++([a,b,d]++B))/\w.grownBy W (some g):=by
 obtain⟨h1,g1⟩:=h.stored m a;obtain⟨h2,g2⟩:=h1.stored (m+1) b;obtain⟨h3,g3⟩:=h2.stored (m+2) d;rw[qa4 hm] at h3;exact⟨_,rfl,h3,(g1.trans g2).trans g3⟩
theorem z5u{w w':World}{g gc:Nat}{ty:TypeId}{x y z a b c:Value}(h:Blk w' g ty #[x,y,z])(hb:w.grownBy w' (some gc))(hg:w.heap.size<=g):
 ∃W3,W3=(((w'.setCell ⟨g,0,none⟩ a).setCell ⟨g,1,none⟩ b).setCell ⟨g,2,none⟩ c)/\Blk W3 g ty #[a,b,c]/\w.grownBy W3 (some gc)/\ ∀k,k≠g->W3.heap[k]? =w'.heap[k]? :=by
 refine⟨_,rfl,by simpa using((h.set_ 0 a).set_ 1 b).set_ 2 c,⟨hb.os,hb.tape,hb.output,by simpa[World.setCell] using hb.size,fun k hk hne=>?_⟩,fun k hk=>?_⟩
 ·rw[Below.heap_setCell _ _ _ _ (show k≠g by omega),Below.heap_setCell _ _ _ _ (show k≠g by omega),Below.heap_setCell _ _ _ _ (show k≠g by omega)]
  exact hb.block k hk hne
 ·rw[Below.heap_setCell _ _ _ _ hk,Below.heap_setCell _ _ _ _ hk,Below.heap_setCell _ _ _ _ hk]
theorem z1w{w:World}{row:Option Nat}:w.grownBy w.drew row:=⟨rfl,rfl,rfl,Nat.le_refl _,fun _ _ _=>rfl⟩
theorem Reads.litR(w:World)(e:TypeId)(cs:Array Value)(n sz:Nat)(xs:List Value)(h:cs.toList=xs)(hn:xs.length=n*sz):Reads (w.alloc (.cells cs e)) (w.alloc (.cells cs e)).heap.size sz (some ⟨w.heap.size,0,none⟩) n xs:=by refine⟨hn,fun _=>⟨_,rfl,by simp,?_⟩⟩;have:=World.news_of_block (heap_alloc_new w (.cells cs e));rwa[h] at this
theorem Reads.pair2{w:World}{B n i:Nat}{A:Option Addr}{l:List (Int × Int)}(h:Reads w B 2 A n (zdj l))(hi:i<n):
 ∃ad,A=some ad/\ad.block<B/\w.cell? (ad.add (i*2))=some (.int .i64 (l.getD i (0,0)).1)/\w.cell? ⟨(ad.add (i*2)).block,(ad.add (i*2)).off+1,none⟩=some (.int .i64 (l.getD i (0,0)).2):=by
 obtain⟨ad,h1,h2,h3,h4⟩:=h.pair hi;rw[<-za9] at h4;exact⟨ad,h1,h2,h3,h4⟩
open Go Go.RowKit
abbrev zbc:=List Nat × Int × Bool
def zls(c:zbc):List Value:=[.string (zad c.1),.int .i64 c.2.1,.bool c.2.2]
theorem Reads.colT{w:World}{B n i:Nat}{A:Option Addr}{l:List zbc}(h:Reads w B 3 A n (recs zls l))(hi:i<n):
 ∃ad,A=some ad/\ad.block<B/\w.cell? (ad.add (i*3))=some (.string (zad (l.getD i ([],0,false)).1))/\w.cell? ⟨(ad.add (i*3)).block,(ad.add (i*3)).off+1,none⟩=some (.int .i64 (l.getD i ([],0,false)).2.1)/\w.cell? ⟨(ad.add (i*3)).block,(ad.add (i*3)).off+2,none⟩=some (.bool (l.getD i ([],0,false)).2.2):=by
 obtain⟨ad,h1,h2,_,h3⟩:=h.rec_ (f:=zls) (sz:=3) (fun _=>rfl) ([],0,false) hi (by omega);refine⟨ad,h1,h2,h3 0 _ rfl,?_,?_⟩
 ·have:=h3 1 _ rfl
  rw[<-za9] at this;exact this
 ·have:=h3 2 _ rfl
  rw[<-za9] at this;exact this
theorem Reads.lenC{w:World}{B n:Nat}{A:Option Addr}{l:List zbc}(h:Reads w B 3 A n (recs zls l)):n=l.length:=h.lenR (f:=zls) (sz:=3) (fun _=>rfl) (by omega)
theorem zan{w:World}{g:Nat}{ty:TypeId}{x y z:Value}(h:Blk w g ty #[x,y,z]):w.cell? ⟨g,0,none⟩=some x/\w.cell? ⟨g,1,none⟩=some y/\w.cell? ⟨g,2,none⟩=some z:=by have h0:=h.cell 0;have h1:=h.cell 1;have h2:=h.cell 2;simp at h0 h1 h2;exact⟨h0,h1,h2⟩
open Go Go.RowKit
abbrev zab:=Bool × Int × List Nat × Int × Int
def zay(c:zab):List Value:=[.bool c.1,.int .i64 c.2.1,.string (zad c.2.2.1),.int .i64 c.2.2.2.1,.int .i64 c.2.2.2.2]
def za8:zab:=(false,0,[],0,0)
def zc2(c:zab):Value:= .agg (zay c).toArray
def inBox(x y:Int):Bool:=decide (-1048576<=x)&&decide (x<=1048576)&&decide (-1048576<=y)&&decide (y<=1048576)
def zae(c:zab)(t:Int)(nu:Bool):Bool:=
 if c.1 then nu&&decide (c.2.1=0/\c.2.2.1=[]/\c.2.2.2.1=0/\c.2.2.2.2=0)
 else if t=0 then decide (c.2.2.1=[]/\c.2.2.2.1=0/\c.2.2.2.2=0)
 else if t=1 then decide ((c.2.2.1=[]/\c.2.2.2.1=0/\c.2.2.2.2=0)/\(c.2.1=0\/c.2.1=1))
 else if t=2 then decide ((c.2.1=0/\c.2.2.2.1=0/\c.2.2.2.2=0)/\c.2.2.1.length<=65536)
 else if t=3 then decide (c.2.1=0/\c.2.2.1=[])&&inBox c.2.2.2.1 c.2.2.2.2
 else false
theorem zcq{w:World}{g:Nat}{ty:TypeId}{a b c d e:Value}(h:Blk w g ty #[a,b,c,d,e]):w.cell? ⟨g,0,none⟩=some a/\w.cell? ⟨g,1,none⟩=some b/\w.cell? ⟨g,2,none⟩=some c/\w.cell? ⟨g,3,none⟩=some d/\w.cell? ⟨g,4,none⟩=some e:=by have h0:=h.cell 0;have h1:=h.cell 1;have h2:=h.cell 2;have h3:=h.cell 3;have h4:=h.cell 4;simp at h0 h1 h2 h3 h4;exact⟨h0,h1,h2,h3,h4⟩
theorem zbw{w:World}{g:Nat}{ty:TypeId}{a b:Value}(h:Blk w g ty #[a,b]):w.cell? ⟨g,0,none⟩=some a/\w.cell? ⟨g,1,none⟩=some b:=by have h0:=h.cell 0;have h1:=h.cell 1;simp at h0 h1;exact⟨h0,h1⟩
theorem Reads.cell5{w:World}{B n i:Nat}{A:Option Addr}{l:List zab}(h:Reads w B 5 A n (recs zay l))(hi:i<n):
 ∃ad,A=some ad/\ad.block<B/\w.cell? (ad.add (i*5))=some (.bool (l.getD i (false,0,[],0,0)).1)/\w.cell? ⟨(ad.add (i*5)).block,(ad.add (i*5)).off+1,none⟩=some (.int .i64 (l.getD i (false,0,[],0,0)).2.1)
  /\w.cell? ⟨(ad.add (i*5)).block,(ad.add (i*5)).off+2,none⟩=some (.string (zad (l.getD i (false,0,[],0,0)).2.2.1))/\w.cell? ⟨(ad.add (i*5)).block,(ad.add (i*5)).off+3,none⟩=some (.int .i64 (l.getD i (false,0,[],0,0)).2.2.2.1)
  /\w.cell? ⟨(ad.add (i*5)).block,(ad.add (i*5)).off+4,none⟩=some (.int .i64 (l.getD i (false,0,[],0,0)).2.2.2.2):=by
 obtain⟨ad,h1,h2,_,h3⟩:=h.rec_ (f:=zay) (sz:=5) (fun _=>rfl) (false,0,[],0,0) hi (by omega);refine⟨ad,h1,h2,h3 0 _ rfl,?_,?_,?_,?_⟩
 ·have:=h3 1 _ rfl
  rw[<-za9] at this;exact this
 ·have:=h3 2 _ rfl
  rw[<-za9] at this;exact this
 ·have:=h3 3 _ rfl
  rw[<-za9] at this;exact this
 ·have:=h3 4 _ rfl
  rw[<-za9] at this;exact this
theorem Reads.lenCell{w:World}{B n:Nat}{A:Option Addr}{l:List zab}(h:Reads w B 5 A n (recs zay l)):n=l.length:=h.lenR (f:=zay) (sz:=5) (fun _=>rfl) (by omega)
open Go Go.RowKit
inductive Plan3 where
 |done
 |quiet (i:Nat) (p:Plan3)
 |alone (i:Nat) (p:Plan3)
 |two (i:Nat) (p:Plan3) (j:Nat) (q:Plan3)
 |three (i:Nat) (p:Plan3) (j:Nat) (q:Plan3) (k:Nat) (r:Plan3)
section
variable{P:Program}{ops:Array Oper}{Q:Exit->Act->World->Prop}
def Plan3.ok(ops:Array Oper):Array Bool->Plan3->Bool
 |listed,.done=>(Region.ready .any ops listed).isEmpty
 |listed,.quiet i p=>(Region.ready .any ops listed).contains i&&(Region.free .any ops listed i&&p.ok ops (listed.setIfInBounds i true))
 |listed,.alone i p=>decide (Region.ready .any ops listed=[i])&&p.ok ops (listed.setIfInBounds i true)
 |listed,.two i p j q=>decide (Region.ready .any ops listed=[i,j])&&(p.ok ops (listed.setIfInBounds i true)&&q.ok ops (listed.setIfInBounds j true))
 |listed,.three i p j q k r=>decide (Region.ready .any ops listed=[i,j,k])&&(p.ok ops (listed.setIfInBounds i true)&&(q.ok ops (listed.setIfInBounds j true)&&r.ok ops (listed.setIfInBounds k true)))
def Plan3.size:Plan3->Nat
 | .done=>0
 | .quiet _ p=>p.size+1
 | .alone _ p=>p.size+1
 | .two _ p _ q=>Nat.max p.size q.size+1
 | .three _ p _ q _ r=>Nat.max p.size (Nat.max q.size r.size)+1
def zgf(P:Program)(ops:Array Oper)(R:World->World->Prop)(Q:Exit->Act->World->Prop)(i:Nat)(K:Act->World->Prop)(a:Act)(w:World):Prop:=
 ∃o,ops[i]? =some o/\if Region.wanted o (yielded ops a.tmps) then o.wp P a w (fun a' w'=>R w w'/\K a' w') (NoPanic Q) else K (a.put o.dst undef) w
def zc6(P:Program)(ops:Array Oper)(R:World->World->Prop)(Q:Exit->Act->World->Prop):Plan3->Act->World->Prop
 | .done,a,w=>Q .normal a w
 | .quiet i p,a,w=>∃o v,ops[i]? =some o/\((Region.wanted o (yielded ops a.tmps)=true/\ ∀w',R w w'->(execOp a.eval o).run P w'= .ok (.value v) w')\/(Region.wanted o (yielded ops a.tmps)=false/\v=undef))/\zc6 P ops R Q p (a.put o.dst v) w
 | .alone i p,a,w=>zgf P ops R Q i (zc6 P ops R Q p) a w
 | .two i p j q,a,w=>zgf P ops R Q i (zc6 P ops R Q p) a w/\zgf P ops R Q j (zc6 P ops R Q q) a w
 | .three i p j q k r,a,w=>zgf P ops R Q i (zc6 P ops R Q p) a w/\(zgf P ops R Q j (zc6 P ops R Q q) a w/\zgf P ops R Q k (zc6 P ops R Q r) a w)
variable{R:World->World->Prop}
theorem zp2(hrefl:∀w,R w w)(htrans:∀{x y z},R x y->R y z->R x z)(hs:Region.noSelect ops=true):
 ∀(p:Plan3) (fuel:Nat) (listed:Array Bool) (a:Act) (w:World),p.size<=fuel->p.ok ops listed=true->zc6 P ops R Q p a w->wpAnyH P .any ops (NoPanic Q) (R w) fuel listed a w:=by
 have key:∀(p:Plan3),(∀(fuel:Nat) (listed:Array Bool) (a:Act) (w:World),p.size<=fuel->p.ok ops listed=true->zc6 P ops R Q p a w->wpAnyH P .any ops (NoPanic Q) (R w) fuel listed a w)->
  ∀(j:Nat) (fuel:Nat) (listed:Array Bool) (a:Act) (w:World),p.size<=fuel->p.ok ops (listed.setIfInBounds j true)=true->zgf P ops R Q j (zc6 P ops R Q p) a w->
   wpOp P ops (NoPanic Q) j (fun a' w'=>R w w'/\wpAnyH P .any ops (NoPanic Q) (R w) fuel (listed.setIfInBounds j true) a' w') a w:=by
  intro p ih j fuel listed a w hl h3 hc;obtain⟨o,ho,hc⟩:=hc;unfold wpOp;simp only[ho];split
  ·rename_i hw
   rw[if_pos hw] at hc;exact .inl (Oper.wp_mono (fun a' w' hh=>⟨hh.1,zhl (fun z hz=>htrans hh.1 hz) fuel _ a' w' (ih fuel _ a' w' hl h3 hh.2)⟩) hc)
  ·rename_i hw
   rw[if_neg hw] at hc;exact⟨hrefl w,ih fuel _ _ w hl h3 hc⟩
 intro p;induction p with
 |done=>
  intro fuel listed a w _ hok h;exact wpAnyH_done (by simpa[Plan3.ok] using hok) (NoPanic.normal h) fuel
 |quiet i p ih=>
  intro fuel listed a w hl hok h;obtain⟨fuel,rfl⟩:∃k,fuel=k+1:=⟨fuel-1,by simp[Plan3.size] at hl;omega⟩;obtain⟨o,v,ho,hv,hr⟩:=h;simp only[Plan3.ok,Bool.and_eq_true] at hok;obtain⟨h1,h2,h3⟩:=hok;exact wpAnyH_take ho hs h2 h1 (fun _ _ _ hp=>hp) hv (hrefl w) (ih fuel _ _ w (by simp[Plan3.size] at hl;omega) h3 hr)
 |alone i p ih=>
  intro fuel listed a w hl hok h;obtain⟨fuel,rfl⟩:∃k,fuel=k+1:=⟨fuel-1,by simp[Plan3.size] at hl;omega⟩;simp only[Plan3.ok,Bool.and_eq_true,decide_eq_true_eq] at hok;obtain⟨h1,h3⟩:=hok;refine wpAnyH_all h1 (by simp) ?_;intro j hj;obtain rfl:j=i:=by simpa using hj
  exact key p ih j fuel listed a w (by simp[Plan3.size] at hl;omega) h3 h
 |two i p j q ihp ihq=>
  intro fuel listed a w hl hok h;obtain⟨fuel,rfl⟩:∃k,fuel=k+1:=⟨fuel-1,by simp[Plan3.size] at hl;omega⟩;simp only[Plan3.ok,Bool.and_eq_true,decide_eq_true_eq] at hok;obtain⟨h1,h3,h4⟩:=hok;have hl':Nat.max p.size q.size<=fuel:=by simp[Plan3.size] at hl;exact hl
  refine wpAnyH_all h1 (by simp) ?_;intro k hk;have hk:k=i\/k=j:=by simpa using hk
  rcases hk with rfl|rfl
  ·exact key p ihp k fuel listed a w (Nat.le_trans (Nat.le_max_left _ _) hl') h3 h.1
  ·exact key q ihq k fuel listed a w (Nat.le_trans (Nat.le_max_right _ _) hl') h4 h.2
 |three i p j q l r ihp ihq ihr=>
  intro fuel listed a w hl hok h;obtain⟨fuel,rfl⟩:∃k,fuel=k+1:=⟨fuel-1,by simp[Plan3.size] at hl;omega⟩;simp only[Plan3.ok,Bool.and_eq_true,decide_eq_true_eq] at hok;obtain⟨h1,h3,h4,h5⟩:=hok;have hl':Nat.max p.size (Nat.max q.size r.size)<=fuel:=by simp[Plan3.size] at hl;exact hl
  refine wpAnyH_all h1 (by simp) ?_;intro k hk;have hk:k=i\/k=j\/k=l:=by simpa using hk
  rcases hk with rfl|rfl|rfl
  ·exact key p ihp k fuel listed a w (Nat.le_trans (Nat.le_max_left _ _) hl') h3 h.1
  ·exact key q ihq k fuel listed a w (Nat.le_trans (Nat.le_trans (Nat.le_max_left _ _) (Nat.le_max_right _ _)) hl') h4 h.2.1
  ·exact key r ihr k fuel listed a w (Nat.le_trans (Nat.le_trans (Nat.le_max_right _ _) (Nat.le_max_right _ _)) hl') h5 h.2.2
theorem zp3{id:Nat}{a:Act}{w:World}(R:World->World->Prop)(p:Plan3)(hrefl:∀w,R w w)(htrans:∀{x y z},R x y->R y z->R x z)(hm:P.follows .mixedOrders=true)
 (hs:Region.noSelect ops=true)(hl:decide (p.size<=ops.size)=true)(hok:p.ok ops (Array.replicate ops.size false)=true)(h:zc6 P ops R Q p a w.drew):(Code.region id ops true).wp P Q a w:=
 wp_region_noPanic (wp_region_held hm (zp2 hrefl htrans hs p ops.size _ a _ (by simpa using hl) hok h))
variable{i j:Nat}{p q:Plan3}{a:Act}{w:World}{v:Value}
theorem zr1(h:Q .normal a w):zc6 P ops R Q .done a w:=h
section
variable{dst:Option Tmp}{op:Op}{ty:TypeId}{pos:String}{af:Array Edge}{gd:Option (Nat × Bool)}
theorem zj9(ho:ops[i]? =some ⟨dst,op,ty,pos,af,gd⟩)(hw:Region.wanted ⟨dst,op,ty,pos,af,gd⟩ (yielded ops a.tmps)=true)(hv:∀w',R w w'->(execOp a.eval ⟨dst,op,ty,pos,af,gd⟩).run P w'= .ok (.value v) w')(h:zc6 P ops R Q p (a.put dst v) w):zc6 P ops R Q (.quiet i p) a w:=
 ⟨_,v,ho,.inl ⟨hw,hv⟩,h⟩
theorem zjq{K0:Act->World->Prop}(ho:ops[i]? =some ⟨dst,op,ty,pos,af,gd⟩)(hw:Region.wanted ⟨dst,op,ty,pos,af,gd⟩ (yielded ops a.tmps)=true)(h:∀K:Act->World->Prop,(∀a' w',R w w'->K0 a' w'->K a' w')->Oper.wp P ⟨dst,op,ty,pos,af,gd⟩ a w K (NoPanic Q)):zgf P ops R Q i K0 a w:=
 ⟨_,ho,by rw[if_pos hw];exact h _ fun _ _ h1 h2=>⟨h1,h2⟩⟩
theorem zh1(h:zgf P ops R Q i (zc6 P ops R Q p) a w):zc6 P ops R Q (.alone i p) a w:=h
theorem z9d(h:zgf P ops R Q i (zc6 P ops R Q p) a w)(h2:zgf P ops R Q j (zc6 P ops R Q q) a w):zc6 P ops R Q (.two i p j q) a w:=⟨h,h2⟩
end
end
end Go.Hm
