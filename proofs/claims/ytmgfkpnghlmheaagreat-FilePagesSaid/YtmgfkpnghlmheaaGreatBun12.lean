/- Merged. -/
import Derived.Test.YtmgfkpnghlmheaaGreatBun10
import Derived.Test.YtmgfkpnghlmheaaGreatBun11
import Derived.Test.YtmgfkpnghlmheaaGreatBun9
set_option maxHeartbeats 4000000
namespace Go.Proofs.Y
open Go.RowKit Go.Hm
def wrI(x:Int):Int:=IntKind.i64.wrap x
theorem zy5(x:Int):wrI x=(x+9223372036854775808)%18446744073709551616-9223372036854775808:=by unfold wrI;rw[IntKind.wrap_i64]
def ze5(x:Int):Prop:= -9223372036854775808<=x/\x<=9223372036854775807
theorem qds(x:Int):ze5 (wrI x):=by rw[zy5];unfold ze5;omega
theorem qg3{x:Int}(h:ze5 x):wrI x=x:=by rw[zy5];unfold ze5 at h;omega
theorem qag{x y:Int}(h:ze5 y):wrI (x+wrI (y-x))=y:=by rw[zy5,zy5];unfold ze5 at h;omega
theorem zj8{x:Int}(h:ze5 x):zig x<18446744073709551616:=by unfold ze5 at h;unfold zig;split<;> omega
theorem zy6{n:Nat}(h:n<18446744073709551616):ze5 (zag n):=by unfold ze5 zag;split<;> omega
def zdu:List Int->List Int
 |x::y::l=>wrI (y-x)::zdu (y::l)
 |_=>[]
theorem zeu:∀l:List Int,(zdu l).length=l.length-1
 | []=>rfl
 | [_]=>rfl
 |x::y::l=>by
  have:=zeu (y::l);rw[zdu,List.length_cons,this];simp
theorem ztz:∀(l:List Int) (k:Nat),k+1<l.length->(zdu l).getD k 0=wrI (l.getD (k+1) 0-l.getD k 0)
 | [],k,h=>by simp at h
 | [_],k,h=>by simp at h
 |x::y::l,0,h=>rfl
 |x::y::l,k+1,h=>by
  have:=ztz (y::l) k (by simpa using h);rw[zdu,List.getD_cons_succ,this];rfl
theorem zia:∀(l:List Int),∀s∈zdu l,ze5 s
 | [],_,h=>by simp[zdu] at h
 | [_],_,h=>by simp[zdu] at h
 |x::y::l,s,h=>by
  rw[zdu] at h;rcases List.mem_cons.1 h with rfl|h
  ·exact qds _
  ·exact zia (y::l) s h
def zfi(x:Int):List Int->List Int
 | []=>[]
 |s::l=>wrI (x+s)::zfi (wrI (x+s)) l
theorem zqj:∀(l:List Int) (x:Int),(∀y∈l,ze5 y)->zfi x (zdu (x::l))=l
 | [],_,_=>rfl
 |y::l,x,h=>by
  rw[zdu,zfi,qag (h y (by simp)),zqj l y (fun z hz=>h z (by simp[hz]))]
theorem zj9:∀(l:List Int) (x:Int),(zfi x l).length=l.length
 | [],_=>rfl
 |s::l,x=>by rw[zfi,List.length_cons,List.length_cons,zj9 l]
theorem zy7:∀(l:List Int) (x:Int),∀y∈zfi x l,ze5 y
 | [],_,_,h=>by simp[zfi] at h
 |s::l,x,y,h=>by
  rw[zfi] at h;rcases List.mem_cons.1 h with rfl|h
  ·exact qds _
  ·exact zy7 l _ y h
def zib(d:Int)(l:List Int):Int:=l.getLast?.getD d
theorem zqk(d x:Int)(l:List Int):zib d (x::l)=zib x l:=by unfold zib;rw[List.getLast?_cons];rfl
theorem qah{l:List Int}(h:0<l.length)(d:Int):zib d l=l.getD (l.length-1) 0:=by unfold zib;rw[List.getLast?_eq_getElem?,List.getD_eq_getElem?_getD,List.getElem?_eq_getElem (by omega)];rfl
theorem znw:∀(a b:List Int) (x:Int),zfi x (a++b)=zfi x a++zfi (zib x (zfi x a)) b
 | [],b,x=>rfl
 |s::a,b,x=>by
  rw[List.cons_append,zfi,zfi,znw a b,List.cons_append,zqk]
theorem z1h(a:List Int)(s x:Int):zfi x (a++[s])=zfi x a++[wrI (zib x (zfi x a)+s)]:=by rw[znw];rfl
def zg0(l:List Int):Nat->Int
 |0=>l.getD 0 0
 |k+1=>min (zg0 l k) (l.getD (k+1) 0)
def leastD(l:List Int):Int:=zg0 l (l.length-1)
theorem zt0(l:List Int):∀k i,i<=k->zg0 l k<=l.getD i 0
 |0,i,h=>by
  obtain rfl:i=0:=by omega
  exact Int.le_refl _
 |k+1,i,h=>by
  rw[zg0];rcases Nat.lt_or_ge i (k+1) with e|e
  ·have:=zt0 l k i (by omega)
   omega
  ·obtain rfl:i=k+1:=by omega
   omega
theorem zt1(l:List Int):∀k,∃i,i<=k/\zg0 l k=l.getD i 0
 |0=>⟨0,Nat.le_refl _,rfl⟩
 |k+1=>by
  obtain⟨i,hi,e⟩:=zt1 l k;rw[zg0];rcases Int.le_total (zg0 l k) (l.getD (k+1) 0) with h|h
  ·exact⟨i,by omega,by rw[Int.min_eq_left h,e]⟩
  ·exact⟨k+1,Nat.le_refl _,by rw[Int.min_eq_right h]⟩
theorem zic{l:List Int}{i:Nat}(h:i<l.length):l.getD i 0∈l:=by rw[List.getD_eq_getElem?_getD,List.getElem?_eq_getElem h];exact List.getElem_mem h
theorem z4r{l:List Int}(h:∀x∈l,ze5 x){k:Nat}(hk:k<l.length):ze5 (zg0 l k):=by obtain⟨i,hi,e⟩:=zt1 l k;rw[e];exact h _ (zic (by omega))
theorem zka{l:List Int}(h:∀x∈l,ze5 x)(hl:0<l.length):ze5 (leastD l):=z4r h (by omega)
theorem znx{l:List Int}{x:Int}(h:x∈l):leastD l<=x:=by obtain⟨i,hi,rfl⟩:=List.getElem_of_mem h;have:=zt0 l (l.length-1) i (by omega);rw[List.getD_eq_getElem?_getD,List.getElem?_eq_getElem hi] at this;exact this
def zdr(l:List Int):List Nat:=l.map fun s=>(s-leastD l).toNat
theorem zny(l:List Int):(zdr l).length=l.length:=by simp[zdr]
theorem zkb{l:List Int}(h:∀x∈l,ze5 x):∀m∈zdr l,m<=18446744073709551615:=fun m hm=>by obtain⟨s,hs,rfl⟩:=List.mem_map.1 hm;have h1:=h s hs;have h2:=zka h (List.length_pos_of_mem hs);have h3:=znx hs;unfold ze5 at h1 h2;omega
def blockD(l:List Int):List Nat:=vp (zig (leastD l))++(wid (zdr l)::low (pk (wid (zdr l)) (zdr l)) ((wid (zdr l)*l.length+7)/8))
theorem zql{l:List Int}(h:∀x∈l,ze5 x)(hl:0<l.length)(hl2:l.length<=32):(blockD l).length<=268:=by have h1:=zap (zj8 (zka h hl));have h2:=zj5 _ (zkb h);have h3:wid (zdr l)*l.length<=64*32:=Nat.mul_le_mul h2 hl2;unfold blockD;rw[List.length_append,List.length_cons,zbk];omega
def blk(s:List Int)(k:Nat):List Int:=(s.drop (k*32)).take 32
theorem znz(s:List Int)(k:Nat):(blk s k).length=min 32 (s.length-k*32):=by simp[blk]
theorem zt2{s:List Int}(h:∀x∈s,ze5 x)(k:Nat):∀x∈blk s k,ze5 x:=fun x hx=>h x (List.mem_of_mem_drop (List.mem_of_mem_take hx))
def zci(s:List Int)(K:Nat):List Nat:=(List.range K).flatMap fun k=>blockD (blk s k)
theorem zhm(s:List Int):zci s 0=[]:=rfl
theorem zhn(s:List Int)(k:Nat):zci s (k+1)=zci s k++blockD (blk s k):=by unfold zci;rw[List.range_succ,List.flatMap_append];simp
def nblk(n:Nat):Nat:=(n+31)/32
theorem zid{s:List Int}(h:∀x∈s,ze5 x):∀k,k<=nblk s.length->(zci s k).length<=268*k
 |0,_=>by simp[zhm]
 |k+1,hk=>by
  have ih:=zid h k (by omega);unfold nblk at hk;have:=zql (zt2 h k) (by rw[znz];omega) (by rw[znz];omega);rw[zhn,List.length_append];omega
theorem qai(s:List Int)(k:Nat):s.take ((k+1)*32)=s.take (k*32)++blk s k:=by unfold blk;rw[Nat.add_mul,Nat.one_mul,List.take_add]
def zjz(l:List Int):Option (List Nat):=
 if 65536<l.length then none else if l.length=0 then some [] else some (vp (zig (l.getD 0 0))++zci (zdu l) (nblk (l.length-1)))
theorem zho{l:List Int}{b:List Nat}(h:zjz l=some b):l.length<=65536:=by
 unfold zjz at h;split at h
 ·cases h
 ·omega
theorem zhp{l:List Int}{b:List Nat}(hl:∀x∈l,ze5 x)(h:zjz l=some b):b.length<=600000:=by
 have h0:=zho h;unfold zjz at h;rw[if_neg (by omega)] at h;split at h
 ·injection h with h
  subst h;simp
 ·injection h with h
  subst h;have h1:=zap (zj8 (hl _ (zic (show 0<l.length by omega))));have h2:=zid (zia l) (nblk (l.length-1)) (by rw[zeu];exact Nat.le_refl _);unfold nblk at h2⊢;rw[List.length_append];omega
def zdl(n:Nat)(S:St):List Int × St:=
 match zbh (zbr (nby ((zbf (zh0 S).2).1:Int) (n:Int)) (zbf (zh0 S).2).2).1 ((zbf (zh0 S).2).1:Int) (n:Int) with
 |some m=>(m.map fun y:Nat=>wrI (zag (zh0 S).1+(y:Int)),(zbr (nby ((zbf (zh0 S).2).1:Int) (n:Int)) (zbf (zh0 S).2).2).2)
 |none=>([],none)
theorem zwy{l:List Int}(h:∀x∈l,ze5 x)(h0:0<l.length)(hl:l.length<=65536)(r:List Nat):zdl l.length (some (blockD l++r))=(l,some r):=by
 have hw:=zj5 _ (zkb h);have hlen:(low (pk (wid (zdr l)) (zdr l)) ((wid (zdr l)*l.length+7)/8)).length=(wid (zdr l)*l.length+7)/8:=zbk _ _;have ht:=zdh (low (pk (wid (zdr l)) (zdr l)) ((wid (zdr l)*l.length+7)/8)) r;rw[hlen] at ht;have hu:=zhj (zdr l) (wid (zdr l)) hw (by rw[zny];exact hl) (Nat.le_refl _) (zkb h);rw[zny] at hu;unfold zdl blockD;rw[List.append_assoc,zix _ _ (zj8 (zka h h0))];simp only[List.cons_append,zbf];rw[znp _ _ hw hl,ht];dsimp only;rw[hu];dsimp only;rw[znt];congr 1
 unfold zdr;rw[List.map_map];have:∀s∈l,((fun y:Nat=>wrI (leastD l+(y:Int))) ∘ fun s=>(s-leastD l).toNat) s=s:=by intro s hs;have h3:=znx hs;simp only[Function.comp];rw[show leastD l+(((s-leastD l).toNat:Nat):Int)=s by omega];exact qg3 (h s hs)
 rw[List.map_congr_left this];simp
theorem zt3(n:Nat):(zdl n none).2=none:=by unfold zdl;rw[z4p,ziy,zdx];split<;> rfl
theorem zjn{b m:List Nat}{x:Int}{n:Nat}(h:zbh b x (n:Int)=some m):m.length=n:=by
 unfold zbh at h;split at h
 ·injection h with h
  rw[<-h,zea,Int.toNat_natCast]
 ·cases h
theorem zwz{n:Nat}{S:St}{r:List Nat}(h:(zdl n S).2=some r):(zdl n S).1.length=n:=by
 unfold zdl at h⊢;split
 ·rename_i m hm
  rw[List.length_map];exact zjn hm
 ·rename_i hm
  rw[hm] at h;cases h
theorem zqm(n:Nat)(S:St):(zdl n S).1.length<=n:=by
 unfold zdl;split
 ·rename_i m hm
  rw[List.length_map,zjn hm];exact Nat.le_refl _
 ·exact Nat.zero_le _
theorem zt4{S:St}(hS:S.ok):(zbf S).2.ok:=by
 unfold zbf;split
 ·rename_i b r
  exact St.ok_some fun x hx=>hS _ rfl x (by simp[hx])
 ·exact St.ok_none
def zk7(n:Nat):Nat->List Int × St->List Int × St
 |0,p=>p
 |k+1,p=>((zk7 n k p).1++zfi (zib 0 (zk7 n k p).1) (zdl (min 32 (n-k*32)) (zk7 n k p).2).1,(zdl (min 32 (n-k*32)) (zk7 n k p).2).2)
theorem zy8{s:List Int}(h:∀x∈s,ze5 x)(x:Int):∀(k:Nat) (r:List Nat),k<=nblk s.length->zk7 s.length k ([x],some (zci s k++r))=(x::zfi x (s.take (k*32)),some r)
 |0,r,_=>by simp[zk7,zhm,zfi]
 |k+1,r,hk=>by
  unfold nblk at hk;have hbl:=znz s k;rw[zk7,zhn,List.append_assoc,zy8 h x k _ (by unfold nblk;omega)];dsimp only;rw[<-hbl,zwy (zt2 h k) (by omega) (by omega)];dsimp only;rw[zqk,List.cons_append,<-znw,<-qai]
def zp3(n:Nat)(S:St):List Int × St:=zk7 (n-1) (nblk (n-1)) ([zag (zh0 S).1],(zh0 S).2)
def zjo(n:Nat)(b:List Nat):List Int × St:=if n=0 then([],some b) else zp3 n (some b)
theorem z4s{l:List Int}{b:List Nat}(h:∀x∈l,ze5 x)(he:zjz l=some b):zjo l.length b=(l,some []):=by
 have hf:=zho he;unfold zjz at he;rw[if_neg (by omega)] at he;unfold zjo;cases l with
 |nil=>
  simp at he;subst he;rfl
 |cons x l=>
  rw[if_neg (by simp)] at he⊢;injection he with he;subst he;have e:=zy8 (zia (x::l)) x (nblk l.length) [] (by rw[zeu];exact Nat.le_refl _);rw[List.append_nil,zeu] at e;unfold zp3;rw[List.length_cons,Nat.add_sub_cancel,List.getD_cons_zero,zix _ _ (zj8 (h x (by simp)))];dsimp only;rw[znt];rw[List.length_cons,Nat.add_sub_cancel] at e;rw[e,List.take_of_length_le (by rw[zeu,List.length_cons];unfold nblk;omega),zqj l x (fun y hy=>h y (by simp[hy]))]
theorem zy9(n:Nat)(p:List Int × St):∀(k:Nat) (r:List Nat),(zk7 n k p).2=some r->(zk7 n k p).1.length=p.1.length+min (k*32) n
 |0,r,_=>by simp[zk7]
 |k+1,r,h=>by
  rw[zk7] at h⊢;dsimp only at h⊢;have h1:=zwz h;cases e:(zk7 n k p).2 with
  |none=>
   rw[e,zt3] at h;cases h
  |some q=>
   have ih:=zy9 n p k q e;rw[<-e,List.length_append,zj9,h1,ih];omega
theorem zw0(n:Nat)(p:List Int × St):∀k,(zk7 n k p).1.length<=p.1.length+k*32
 |0=>by simp[zk7]
 |k+1=>by
  have ih:=zw0 n p k;have h1:=zqm (min 32 (n-k*32)) (zk7 n k p).2;rw[zk7];dsimp only;rw[List.length_append,zj9];omega
theorem zza(n:Nat)(p:List Int × St)(h:0<p.1.length):∀k,0<(zk7 n k p).1.length
 |0=>h
 |k+1=>by
  have ih:=zza n p h k;rw[zk7];dsimp only;rw[List.length_append];omega
theorem z4t(n:Nat)(p:List Int × St)(h:∀x∈p.1,ze5 x):∀k,∀x∈(zk7 n k p).1,ze5 x
 |0=>h
 |k+1=>by
  intro x hx;rw[zk7] at hx;rcases List.mem_append.1 hx with hx|hx
  ·exact z4t n p h k x hx
  ·exact zy7 _ _ x hx
theorem zzb{n:Nat}{b:List Nat}(h8:∀x∈b,x<256):∀x∈(zjo n b).1,ze5 x:=by
 unfold zjo;split
 ·intro x hx
  cases hx
 ·refine z4t _ _ (fun x hx=>?_) _
  rw[List.mem_singleton] at hx;rw[hx];exact zy6 (zjm (St.ok_some h8))
theorem qaj(n:Nat)(b:List Nat):(zjo n b).1.length<=n+32:=by
 unfold zjo;split
 ·simp
 ·have:=zw0 (n-1) ([zag (zh0 (some b)).1],(zh0 (some b)).2) (nblk (n-1))
  unfold zp3;unfold nblk at this⊢;rw[List.length_singleton] at this;omega
theorem z4u{n:Nat}{b r:List Nat}(h:(zjo n b).2=some r):(zjo n b).1.length=n:=by
 unfold zjo at h⊢;by_cases h0:n=0
 ·rw[if_pos h0,h0]
  rfl
 ·rw[if_neg h0] at h⊢
  unfold zp3 at h⊢;have:=zy9 _ _ _ _ h;rw[this,List.length_singleton];unfold nblk;omega
structure IsDel(b:List Nat)(n:Int)(o:Option (List Int)):Prop where
 sound:∀l,o=some l->(l.length:Int)=n/\zjz l=some b/\ ∀x∈l,ze5 x
 compl:∀l,(∀x∈l,ze5 x)->(l.length:Int)=n->zjz l=some b->o=some l
theorem IsDel.uniq{b:List Nat}{n:Int}{o p:Option (List Int)}(h:IsDel b n o)(k:IsDel b n p):o=p:=by
 cases o with
 |some l=>obtain⟨a,b,c⟩:=h.sound l rfl;exact(k.compl l c a b).symm
 |none=>
  cases p with
  |none=>rfl
  |some l=>obtain⟨a,b,c⟩:=k.sound l rfl;exact h.compl l c a b
theorem zt5{b:List Nat}{n:Int}(h:n<0\/65536<n):IsDel b n none:=
 ⟨fun l e=>(by cases e),fun l _ h1 h2=>(by have:=zho h2;omega)⟩
theorem zzc{b:List Nat}{n:Nat}(h8:∀x∈b,x<256):IsDel b (n:Int) (if(zjo n b).2=some []/\zjz (zjo n b).1=some b then some (zjo n b).1 else none):=by
 refine⟨fun l e=>?_,fun l hl h1 h2=>?_⟩
 ·split at e
  ·rename_i h
   injection e with e;subst e;exact⟨by rw[z4u h.1],h.2,zzb h8⟩
  ·cases e
 ·obtain rfl:l.length=n:=by omega
  rw[z4s hl h2,if_pos ⟨rfl,h2⟩]
end Go.Proofs.Y
namespace Go.Hm
open Go Go.RowKit
def near(c:zab):Prop:=(-1048576<=c.2.2.2.1/\c.2.2.2.1<=1048576)/\ -1048576<=c.2.2.2.2/\c.2.2.2.2<=1048576
theorem qhi:near zaz:=by unfold near zaz;decide
theorem zzz{a b:zab}(h:near a)(k:near b):qbm a.2.2.2.1 a.2.2.2.2 b.2.2.2.1 b.2.2.2.2:=by unfold near at h k;unfold qbm;omega
end Go.Hm
namespace Go.Proofs.Y
open Go.RowKit Go.Hm
theorem ze9{w:World}{t:Int}{a b:zab}(ha:near a)(hb:near b):Calls Tryz.prog 152 #[.int .i64 t,zca a,zca b] w (zak (.int .i64 (zh2 t a b)) w):=zuq (zzz ha hb)
set_option maxRecDepth 100000 in
theorem z6h{w:World}{t:Int}{a b:zc7}(ha1:near a.2.2.1)(ha2:near a.2.2.2)(hb1:near b.2.2.1)(hb2:near b.2.2.2)(hn:0<=a.1/\a.1<=1000000)(hm:0<=b.1/\b.1<=1000000):
 Calls Tryz.prog 128 #[.int .i64 t,zbz a,zbz b] w (zak (zbz (zl5 t a b)) w):=by
 have C1:=Hz (fun(W:World)=>ze9 (w:=W) (t:=t) hb1 ha1);have C2:=Hz (fun(W:World)=>ze9 (w:=W) (t:=t) hb2 ha2);have D1:=Hz (fun(W:World)=>ze9 (w:=W) (t:=t) hb1 hb1);have D2:=Hz (fun(W:World)=>ze9 (w:=W) (t:=t) hb2 hb2);rw[zur] at D1 D2;obtain⟨n,ah,p,q⟩:=a;obtain⟨m,bh,r,s⟩:=b;dsimp only at*;obtain⟨M,hM⟩:∃M,M=zl5 t (n,ah,p,q) (m,bh,r,s):=⟨_,rfl⟩;rw[<-hM];unfold zl5 at hM;dsimp only at hM;generalize zh2 t r p=o1 at*;generalize zh2 t s q=o2 at*;obtain⟨p1,p2,p3,p4,p5⟩:=p;obtain⟨q1,q2,q3,q4,q5⟩:=q;obtain⟨r1,r2,r3,r4,r5⟩:=r;obtain⟨s1,s2,s3,s4,s5⟩:=s;unfold zca zan at C1 C2 D1 D2;dsimp only at C1 C2 D1 D2;show Calls Tryz.prog 128 #[.int .i64 t,.agg #[.int .i64 n,.bool ah,.bool p1,.int .i64 p2,.string (zac p3),.int .i64 p4,.int .i64 p5,.bool q1,.int .i64 q2,.string (zac q3),.int .i64 q4,.int .i64 q5],
  .agg #[.int .i64 m,.bool bh,.bool r1,.int .i64 r2,.string (zac r3),.int .i64 r4,.int .i64 r5,.bool s1,.int .i64 s2,.string (zac s3),.int .i64 s4,.int .i64 s5]] w (zak (zbz M) w)
 have B0:=Blk.new w 63 #[.int .i64 n,.bool ah,.bool p1,.int .i64 p2,.string (zac p3),.int .i64 p4,.int .i64 p5,.bool q1,.int .i64 q2,.string (zac q3),.int .i64 q4,.int .i64 q5];have B1:=Blk.new (w.alloc (.cells #[.int .i64 n,.bool ah,.bool p1,.int .i64 p2,.string (zac p3),.int .i64 p4,.int .i64 p5,.bool q1,.int .i64 q2,.string (zac q3),.int .i64 q4,.int .i64 q5] 63)) 63 #[.int .i64 m,.bool bh,.bool r1,.int .i64 r2,.string (zac r3),.int .i64 r4,.int .i64 r5,.bool s1,.int .i64 s2,.string (zac s3),.int .i64 s4,.int .i64 s5];have hnm:IntKind.i64.wrap (n+m)=n+m:=IntWalk.i64_in _ (by omega);have HM:=Hz hM;clear hM ha1 ha2 hb1 hb2;have BO:=fun(cs:Array Value)=>Blk.new (((w.alloc (.cells #[.int .i64 n,.bool ah,.bool p1,.int .i64 p2,.string (zac p3),.int .i64 p4,.int .i64 p5,.bool q1,.int .i64 q2,.string (zac q3),.int .i64 q4,.int .i64 q5] 63)).alloc (.cells #[.int .i64 m,.bool bh,.bool r1,.int .i64 r2,.string (zac r3),.int .i64 r4,.int .i64 r5,.bool s1,.int .i64 s2,.string (zac s3),.int .i64 s4,.int .i64 s5] 63)).alloc (.cells #[.int .i64 0,.bool false,.bool false,.int .i64 0,.string ⟨#[]⟩,.int .i64 0,.int .i64 0,.bool false,.int .i64 0,.string ⟨#[]⟩,.int .i64 0,.int .i64 0] 63)) 63 cs
 obtain⟨Z,hZ⟩:∃Z:Obj,Z= .cells #[.int .i64 0,.bool false,.bool false,.int .i64 0,.string ⟨#[]⟩,.int .i64 0,.int .i64 0,.bool false,.int .i64 0,.string ⟨#[]⟩,.int .i64 0,.int .i64 0] 63:=⟨_,rfl⟩;obtain⟨x0,x1,x2,x3,x4,x5,x6,x7,x8,x9,x10,x11⟩:=za6 ((B0.alloc (.cells #[.int .i64 m,.bool bh,.bool r1,.int .i64 r2,.string (zac r3),.int .i64 r4,.int .i64 r5,.bool s1,.int .i64 s2,.string (zac s3),.int .i64 s4,.int .i64 s5] 63)).alloc Z);obtain⟨y0,y1,y2,y3,y4,y5,y6,y7,y8,y9,y10,y11⟩:=za6 (B1.alloc Z);have HB0:=Hz ((B0.alloc (.cells #[.int .i64 m,.bool bh,.bool r1,.int .i64 r2,.string (zac r3),.int .i64 r4,.int .i64 r5,.bool s1,.int .i64 s2,.string (zac s3),.int .i64 s4,.int .i64 s5] 63)).alloc Z);have HB1:=Hz (B1.alloc Z);subst hZ;simp only[World.size_alloc] at y0 y1 y2 y3 y4 y5 y6 y7 y8 y9 y10 y11;clear B0 B1;have hNN4:Hid (∀(o1 o2 o3 o4:Obj) (W:World),New ((((w.alloc o1).alloc o2).alloc o3).alloc o4) W->New w W):=Hz fun o1 o2 o3 o4 W h=>New.trans (New.trans (zqo w o1 o2) (zqo _ o3 o4)) h
 cases ah with
 |true=>
  cases bh with
  |true=>
   have hM:=HM.out;clear HM;rw[if_pos rfl] at hM;simp only[Bool.true_and,decide_eq_true_eq] at hM;have HM:=Hz hM;clear hM;go_enter Tryz.func128,Tryz.ntmps128
   go_wp2_with fail
   refine(C1.out _).mono ?_;rintro e w1 ⟨rfl,b1⟩;have B0:=(HB0.out.alloc (.cells #[.int .i64 (n+m),.bool true,.bool p1,.int .i64 p2,.string (zac p3),.int .i64 p4,.int .i64 p5,.bool q1,.int .i64 q2,.string (zac q3),.int .i64 q4,.int .i64 q5] 63)).below b1 (by simp;omega);have B1:=(HB1.out.alloc (.cells #[.int .i64 (n+m),.bool true,.bool p1,.int .i64 p2,.string (zac p3),.int .i64 p4,.int .i64 p5,.bool q1,.int .i64 q2,.string (zac q3),.int .i64 q4,.int .i64 q5] 63)).below b1 (by simp);have B2:=(BO #[.int .i64 (n+m),.bool true,.bool p1,.int .i64 p2,.string (zac p3),.int .i64 p4,.int .i64 p5,.bool q1,.int .i64 q2,.string (zac q3),.int .i64 q4,.int .i64 q5]).below b1 (by simp);have BZ:=((Blk.new _ _ _).alloc _).below b1 (by simp);have hl:=hNN4.out _ _ _ _ _ b1;clear x0 x1 x2 x3 x4 x5 x6 x7 x8 x9 x10 x11 y0 y1 y2 y3 y4 y5 y6 y7 y8 y9 y10 y11 BO HB0 HB1 b1;simp only[World.size_alloc] at B0 B1 B2 BZ;obtain⟨x0,x1,x2,x3,x4,x5,x6,x7,x8,x9,x10,x11⟩:=za6 B0;obtain⟨y0,y1,y2,y3,y4,y5,y6,y7,y8,y9,y10,y11⟩:=za6 B1;by_cases h1:o1<0;all_goals
    have H1:=Hz h1
    go_wp2_with (refine zke rfl 61 (.tmp 42) (.tmp 41) rfl (w.heap.size+1+1+1) 2 rfl rfl B2 (by simp) (by kernel_rfl) (by simp[Value.oneCell']) ?_
                 intro W2 B2 hlow hfar;replace B0:=hfar _ _ _ (by omega) B0;replace B1:=hfar _ _ _ (by omega) B1;replace BZ:=hfar _ _ _ (by omega) BZ;replace hl:=hlow _ _ hl (by omega);clear x0 x1 x2 x3 x4 x5 x6 x7 x8 x9 x10 x11 y0 y1 y2 y3 y4 y5 y6 y7 y8 y9 y10 y11;obtain⟨x0,x1,x2,x3,x4,x5,x6,x7,x8,x9,x10,x11⟩:=za6 B0;obtain⟨y0,y1,y2,y3,y4,y5,y6,y7,y8,y9,y10,y11⟩:=za6 B1;simp only[List.setIfInBounds_toArray,List.set_cons_zero,List.set_cons_succ] at B2)
   all_goals
    refine(C2.out _).mono ?_;rintro e w3 ⟨rfl,b3⟩;replace B0:=B0.below b3 B0.lt;replace B1:=B1.below b3 B1.lt;replace B2:=B2.below b3 B2.lt;replace BZ:=BZ.below b3 BZ.lt;replace hl:=New.trans hl b3;clear b3 x0 x1 x2 x3 x4 x5 x6 x7 x8 x9 x10 x11 y0 y1 y2 y3 y4 y5 y6 y7 y8 y9 y10 y11;obtain⟨x0,x1,x2,x3,x4,x5,x6,x7,x8,x9,x10,x11⟩:=za6 B0;obtain⟨y0,y1,y2,y3,y4,y5,y6,y7,y8,y9,y10,y11⟩:=za6 B1;obtain⟨z0,z1,z2,z3,z4,z5,z6,z7,z8,z9,z10,z11⟩:=za6 B2;by_cases h2:0<o2
   all_goals
    have H2:=Hz h2;go_wp2_with (first
     |(refine zke rfl 61 (.tmp 56) (.tmp 55) rfl (w.heap.size+1+1+1) 7 rfl rfl B2 (by simp) (by kernel_rfl) (by simp[Value.oneCell']) ?_
       intro W4 B2 hlow hfar;replace BZ:=hfar _ _ _ (by omega) BZ;replace hl:=hlow _ _ hl (by omega);clear x0 x1 x2 x3 x4 x5 x6 x7 x8 x9 x10 x11 y0 y1 y2 y3 y4 y5 y6 y7 y8 y9 y10 y11 z0 z1 z2 z3 z4 z5 z6 z7 z8 z9 z10 z11 hfar hlow;simp only[List.setIfInBounds_toArray,List.set_cons_zero,List.set_cons_succ] at B2;obtain⟨z0,z1,z2,z3,z4,z5,z6,z7,z8,z9,z10,z11⟩:=za6 B2)
     |(refine zhr rfl 63 (.tmp 6) (.tmp 57) rfl (w.heap.size+1+1) _ rfl rfl BZ (by kernel_rfl) (by simp) (by simp[Value.oneCell']) ?_
       intro W5 BR hlow hfar;replace hl:=hlow _ _ hl (by omega);clear hfar hlow;obtain⟨s0,s1,s2,s3,s4,s5,s6,s7,s8,s9,s10,s11⟩:=za6 BR))
    have hM:=HM.out;first
     |rw[if_pos H1.out] at hM
     |rw[if_neg (show¬o1<0 by have:=H1.out;omega)] at hM
    first
     |rw[if_pos H2.out] at hM
     |rw[if_neg (show¬0<o2 by have:=H2.out;omega)] at hM
    subst hM;exact bodyPost_ret (v:=zbz _) (by simp[results,Tryz.results128,go_sem,s0,s1,s2,s3,s4,s5,s6,s7,s8,s9,s10,s11,zbz,zb3,zan]) rfl ⟨rfl,hl⟩
  |false=>
   have hM:=HM.out;simp only[if_pos,Bool.false_and,Bool.false_eq_true,if_false] at hM;go_enter Tryz.func128,Tryz.ntmps128
   go_wp2_with fail
   subst hM;exact bodyPost_ret (v:=zbz (n+m,true,(p1,p2,p3,p4,p5),(q1,q2,q3,q4,q5))) (by simp[results,Tryz.results128,go_sem,zbz,zb3,zan]) rfl ⟨rfl,New.trans (zqo w _ _) (zqo _ _ _)⟩
 |false=>
  cases bh with
  |true=>
   have hM:=HM.out;clear HM;rw[if_neg (by simp),if_pos rfl] at hM;have HM:=Hz hM;clear hM;go_enter Tryz.func128,Tryz.ntmps128
   go_wp2_with fail
   refine(D1.out _).mono ?_;rintro e w1 ⟨rfl,b1⟩;have B1:Blk w1 (w.heap.size+1) 63 #[.int .i64 m,.bool true,.bool r1,.int .i64 r2,.string (zac r3),.int .i64 r4,.int .i64 r5,.bool s1,.int .i64 s2,.string (zac s3),.int .i64 s4,.int .i64 s5]:=by have:=(((Blk.new _ _ _).alloc _).alloc _).below b1 (by simp);simpa using this
   have B0:Blk w1 w.heap.size 63 #[.int .i64 m,.bool true,.bool r1,.int .i64 r2,.string (zac r3),.int .i64 r4,.int .i64 r5,.bool s1,.int .i64 s2,.string (zac s3),.int .i64 s4,.int .i64 s5]:=by have:=((((Blk.new _ _ _).alloc _).alloc _).alloc _).below b1 (by simp;omega);simpa using this
   have B2:Blk w1 (w.heap.size+1+1+1) 63 #[.int .i64 (n+m),.bool true,.bool r1,.int .i64 r2,.string (zac r3),.int .i64 r4,.int .i64 r5,.bool s1,.int .i64 s2,.string (zac s3),.int .i64 s4,.int .i64 s5]:=by have:=(Blk.new _ _ _).below b1 (by simp);simpa using this
   have BZ:=((Blk.new _ _ _).alloc _).below b1 (by simp);have hl:=hNN4.out _ _ _ _ _ b1;clear x0 x1 x2 x3 x4 x5 x6 x7 x8 x9 x10 x11 y0 y1 y2 y3 y4 y5 y6 y7 y8 y9 y10 y11 BO HB0 HB1 b1;simp only[World.size_alloc] at BZ;obtain⟨x0,x1,x2,x3,x4,x5,x6,x7,x8,x9,x10,x11⟩:=za6 B0;obtain⟨y0,y1,y2,y3,y4,y5,y6,y7,y8,y9,y10,y11⟩:=za6 B1;go_wp2_with fail
   refine(D2.out _).mono ?_;rintro e w3 ⟨rfl,b3⟩;replace B2:=B2.below b3 B2.lt;replace BZ:=BZ.below b3 BZ.lt;replace hl:=New.trans hl b3;clear b3 x0 x1 x2 x3 x4 x5 x6 x7 x8 x9 x10 x11 y0 y1 y2 y3 y4 y5 y6 y7 y8 y9 y10 y11 B0 B1;obtain⟨z0,z1,z2,z3,z4,z5,z6,z7,z8,z9,z10,z11⟩:=za6 B2
   go_wp2_with (refine zhr rfl 63 (.tmp 6) (.tmp 57) rfl (w.heap.size+1+1) _ rfl rfl BZ (by kernel_rfl) (by simp) (by simp[Value.oneCell']) ?_
                intro W5 BR hlow hfar;replace hl:=hlow _ _ hl (by omega);clear hfar hlow;obtain⟨s0,s1,s2,s3,s4,s5,s6,s7,s8,s9,s10,s11⟩:=za6 BR)
   have hM:=HM.out;subst hM;exact bodyPost_ret (v:=zbz _) (by simp[results,Tryz.results128,go_sem,s0,s1,s2,s3,s4,s5,s6,s7,s8,s9,s10,s11,zbz,zb3,zan]) rfl ⟨rfl,hl⟩
  |false=>
   have hM:=HM.out;rw[if_neg (by simp),if_neg (by simp)] at hM;go_enter Tryz.func128,Tryz.ntmps128
   go_wp2_with fail
   rw[hM];exact bodyPost_ret (v:=zbz (n+m,false,zaz,zaz)) (by simp[results,Tryz.results128,go_sem,zbz,zb3,zan,zaz,show zac []=⟨#[]⟩ from rfl]) rfl ⟨rfl,New.alloc _ (zqo _ _ _)⟩
end Go.Proofs.Y
namespace Go.Hm
open Go Go.RowKit
def boolN(b:Bool):Nat:=if b then 1 else 0
def z2q(c:za1):List Nat:=vp c.1.length++c.1++[c.2.1.toNat,boolN c.2.2]
def zj0(l:List za1):List Nat:=l.flatMap z2q
theorem qbz:zj0 []=[]:=rfl
theorem z65(l:List za1)(c:za1):zj0 (l++[c])=zj0 l++(vp c.1.length++c.1++[c.2.1.toNat,boolN c.2.2]):=by simp[zj0,z2q]
theorem z66(l:List za1)(c:za1):zj0 (c::l)=(vp c.1.length++c.1++[c.2.1.toNat,boolN c.2.2])++zj0 l:=by simp[zj0,z2q]
theorem z0e(l:List za1)(h:∀x∈l,x.1.length<=100):(zj0 l).length<=112*l.length:=by
 induction l with
 |nil=>simp[zj0]
 |cons c l ih=>
  have h1:=ih fun x hx=>h x (by simp[hx])
  have h2:=h c (by simp);have h3:=zap (n:=c.1.length) (by omega);rw[z66];simp only[List.length_append,List.length_cons,List.length_nil] at*;omega
def putC(b:List Nat)(l:List za1):List Nat:=if zb5 l=0 then b++vp l.length++zj0 l else b
end Go.Hm
namespace Go.Proofs.Y
open Go.RowKit Go.Hm
theorem qb0(b:Bool)(w:World):Calls Tryz.prog 94 #[.bool b] w (zdk (.int .u8 ((boolN b:Nat):Int)) w):=by
 cases b;all_goals
  go_enter Tryz.func94,Tryz.ntmps94
  go_wp2
  go_ret
  exact⟨rfl,rfl⟩
set_option maxRecDepth 100000 in
theorem qb1{w:World}{A A2:Option Addr}{n c n2 c2:Nat}{b:List Nat}{L:List za1}(h:Reads w w.heap.size 1 A n (za2 .u8 b))(hn:n<=140737488300000)(h2:Reads w w.heap.size 3 A2 n2 (recs zhq L))(hL:∀x∈L,(∀z∈x.1,z<256)/\x.1.length<=140737488351232)(hc:n2<=c2)(hn2:n2<=4611686018427387903):
 Calls Tryz.prog 56 #[.slice A n c,.slice A2 n2 c2] w (zc4 (putC b L) w):=by
 have P0:=Hz (zm6 (c:=c2) h2 hL hc hn2);obtain rfl:=h2.lenC;by_cases hk:zb5 L=0
 ·rw[hk] at P0
  have HO:=Hz (show putC b L=b++vp L.length++zj0 L by rw[putC,if_pos hk]);obtain⟨m1,m2,_⟩:=(zdi L).1 hk;generalize putC b L=O at*;have M2:=Hz m2;have HLL:=Hz hL;have vl:=zap (n:=L.length) (by omega);have VL:=Hz vl;have hln:=h.len;have LN:=Hz hln;clear hk m2 hL hln;go_enter Tryz.func56,Tryz.ntmps56
  go_wp2_with fail
  refine P0.out.mono ?_;rintro e w1 ⟨rfl,b1⟩;have P1:=Hz (zcz A n c b L.length w1 (Reads.later h b1) (by omega) (by omega));go_wp2_with fail
  refine P1.out.mono ?_;rintro e w2 ⟨A3,n3,c3,rfl,k3,b2⟩;have b02:=New.trans b1 b2;have Z1:=b1.size;clear P0 P1 b1 vl;go_wp2
  go_loopw [5,20] (fun v i wr=>∃(k:Nat) (A:Option Addr) (m c5:Nat),i= .int .i64 (k:Int)/\k<=L.length/\v= .slice A m c5/\Own wr w.heap.size 5 (.slice A m c5) (za2 .u8 (b++vp L.length++zj0 (L.take k)))/\New w wr) (fun _ i _=>L.length-(intOf i).toNat)
  case atStart=>exact⟨0,_,_,_,rfl,by omega,rfl,by rw[List.take_zero,qbz,List.append_nil];exact k3.base_le Z1,b02⟩
  case round=>
   obtain⟨k,A5,m5,c5,rfl,hk,rfl,o5,b5⟩:=hrel;have z5:=b5.size;by_cases hlt:k<L.length
   ·obtain⟨ad,rfl,hbk,d0,d1,d2⟩:=(Reads.later h2 b5).colT hlt
    have hx:(L.getD k ([],0,false))∈L:=by rw[List.getD_eq_getElem?_getD,List.getElem?_eq_getElem hlt];exact List.getElem_mem hlt
    obtain⟨x1,x2,x3,x4⟩:=M2.out _ hx;have y1:=(HLL.out _ hx).1;have T:=zae L k ([],0,false) hlt;have q5:m5<=n+7200:=by have l:=o5.len;have l2:=z0e (L.take k) (fun x hx=>(M2.out x (List.mem_of_mem_take hx)).2.1);rw[zaa,List.length_append,List.length_append] at l;rw[List.length_take] at l2;have:=VL.out;have:=LN.out;omega
    have HT:=Hz (show b++vp L.length++zj0 (L.take (k+1))=b++vp L.length++zj0 (L.take k)++vp (L.getD k ([],0,false)).1.length++(L.getD k ([],0,false)).1++[(L.getD k ([],0,false)).2.1.toNat,boolN (L.getD k ([],0,false)).2.2] by rw[T,z65];simp);clear T hx;generalize(L.getD k ([],0,false)).1=s2 at*;generalize(L.getD k ([],0,false)).2.1=t2 at*;generalize(L.getD k ([],0,false)).2.2=n2 at*;obtain⟨t2,rfl⟩:=Int.eq_ofNat_of_zero_le x3;rw[Int.toNat_natCast] at HT;have zs:=za4 s2;have vs:=zap (n:=s2.length) (by omega);have VS:=Hz vs;have Y1:=Hz y1;have hiz:(k:Int)<(L.length:Int):=by omega
    obtain⟨W1,hW1⟩:∃W,W=wr.alloc (.cells #[.string (zac s2),.int .i64 (t2:Int),.bool n2] 70):=⟨_,rfl⟩;have b51:New w W1:=by rw[hW1];exact Below.alloc b5 b5.size _
    have Y:Blk W1 wr.heap.size 70 #[.string (zac s2),.int .i64 (t2:Int),.bool n2]:=by rw[hW1];exact Blk.new _ _ _
    have o51:Own W1 w.heap.size 5 (.slice A5 m5 c5) (za2 .u8 (b++vp L.length++zj0 (L.take k))):=by rw[hW1];exact o5.alloc _
    have hg7:wr.heap.size<W1.heap.size:=Y.lt;obtain⟨p0,p1,p2⟩:=zad Y;have P6:=Hz (zcz none 0 0 [] s2.length W1 Reads.none_ (by omega) (by omega));rw[hW1] at p0 p1 p2;rw[hW1] at P6;clear y1 o5;have HY:=Hz Y;have HW1:=Hz hW1;clear Y vs hW1;go_wp2_with fail
    refine P6.out.mono ?_;rintro e w7 ⟨A7,n7,c7,rfl,k7,b7⟩;rw[<-HW1.out] at b7 k7;rw[List.nil_append] at k7;have b07:=New.trans b51 b7;have o7:=o51.later b7;have Y7:=HY.out.below b7 HY.out.lt;have q7:n7<=10:=by have:=k7.len;rw[zaa] at this;have:=VS.out;omega
    have r7:=k7.reads;have z7:=b07.size;clear b7 k7 P6 p0 p1 p2 o51;go_wp2_with (first
     |(refine zau elB rfl (.tmp 24) (.tmp 29) rfl (W:=w) (B:=w.heap.size) o7 r7 rfl rfl b07 (Nat.le_refl _) z7 (by omega) (by simp only[maxLen];omega) ?_
       intro A8 c8 w8 _ _ o8 g8 b08 _;have Y8:=Y7.push o7 g8 (by decide);obtain⟨p0,p1,p2⟩:=zad Y8;have HY8:=Hz Y8;have z8:=b08.size;clear Y8)
     |(refine ze0 elB qdq rfl (.tmp 31) (.tmp 33) rfl (W:=w) (B:=w.heap.size) o8 Y1.out rfl rfl b08 (Nat.le_refl _) z8 (by omega) ?_
       intro A9 c9 w9 _ _ o9 g9 b09;have HY9:=Hz (HY8.out.push o8 g9 (by decide));have z9:=b09.size;clear p0 p1 p2))
    have HC:=Hz (fun(W:World) (hW:w9.grownBy W (Value.ownBlock (.slice A9 (m5+n7+s2.length) c9)))=>zad (HY9.out.grown hW (fun e=>o9.blk_ne HY9.out (by decide) e.symm)));refine zam (fun x y=>x.grownBy y (Value.ownBlock (.slice A9 (m5+n7+s2.length) c9))) [(true,0),(true,1),(true,2),(true,3),(true,4),(true,5),(false,6),(false,7),(false,8),(true,9)]
     (fun x=>World.grownBy.refl x _) World.grownBy.trans (by kernel_rfl) (by kernel_rfl) (by kernel_rfl) (by kernel_rfl) ?_
    have e8:IntKind.u8.wrap (t2:Int)=(t2:Int):=by rw[IntKind.wrap_u8];omega
    have MK:=Hz (fun W=>qb0 n2 W);generalize hmk:boolN n2=mk at*;have o10:Own (w9.alloc (.cells #[.int .u8 (t2:Int),.int .u8 (mk:Int)] 5)).drew w.heap.size 5 (.slice A9 (m5+n7+s2.length) c9) (za2 .u8 (b++vp L.length++zj0 (L.take k)++vp s2.length++s2)):=o9.alloc _;have r10:Reads (w9.alloc (.cells #[.int .u8 (t2:Int),.int .u8 (mk:Int)] 5)).drew (w9.alloc (.cells #[.int .u8 (t2:Int),.int .u8 (mk:Int)] 5)).drew.heap.size 1 (some ⟨w9.heap.size,0,none⟩) 2 (za2 .u8 [t2,mk]):=Reads.litV w9 5 #[.int .u8 (t2:Int),.int .u8 (mk:Int)] 2 (za2 .u8 [t2,mk]) rfl rfl;repeat(first
     |(refine za8 rfl rfl (fun K hK=>?_);go_simp
       (with_reducible refine(MK.out _).mono ?_)
       rintro e w11 ⟨rfl,rfl⟩;refine hK _ _ (World.grownBy.refl _ _) ?_;clear hK)
     |(refine zaq rfl rfl (v:=?_) (fun W hW=>?_) ?_;rotate_left;(obtain⟨p0,p1,p2⟩:=HC.out W (World.grownBy.trans z1l hW);go_simp<;> with_reducible rfl);simp only[Act.put,List.setIfInBounds_toArray,List.set_cons_zero,List.set_cons_succ]))
    refine za8 rfl rfl (fun K hK=>?_);go_simp
    refine hK _ _ (World.grownBy_alloc w9.drew _ _) ?_;clear hK;refine za8 rfl rfl (fun K hK=>?_);have b10:Below w.heap.size w (w9.alloc (.cells #[.int .u8 (t2:Int),.int .u8 (mk:Int)] 5)).drew:=(b09.alloc z9 _).drew;refine zkk elB (.tmp 35) (.tmp 42) rfl (W:=w) (B:=w.heap.size) o10 r10 (by omega) rfl rfl b10 (Nat.le_refl _) b10.size (zcs _ _) (by rw[<-o10.len];omega) (by rw[<-o10.len];simp only[maxLen];omega) ?_;intro A11 c11 w11 _ _ o11 g11 b11;refine hK _ _ g11 ?_;clear hK;rw[<-zds,<-o10.len] at o11;rw[<-o10.len];refine zaq rfl rfl (v:=?_) (fun W hW=>?_) ?_;rotate_left
    ·go_simp<;> with_reducible rfl
    simp only[Act.put,List.setIfInBounds_toArray,List.set_cons_zero,List.set_cons_succ];refine zb2 ?_;go_wp2
    go_roundw
    case rel=>exact⟨k+1,_,_,_,by go_num,by omega,rfl,by rw[HT.out];exact o11,b11⟩
    case measure=>simp[intOf];omega
   ·obtain rfl:k=L.length:=by omega
    rw[List.take_length] at o5;go_wp2
    go_ret
    exact⟨_,_,_,rfl,by rw[HO.out];exact o5,b5⟩
 ·have HO:=Hz (show putC b L=b by rw[putC,if_neg hk])
  generalize putC b L=O at*;generalize zb5 L=ck at*;have e1:(ck != 0)=true:=by simpa using hk
  clear hk;go_enter Tryz.func56,Tryz.ntmps56
  go_wp2_with fail
  refine P0.out.mono ?_;rintro e w1 ⟨rfl,b1⟩;have P1:=Hz (zgw (c:=c) (Reads.later h b1) (by omega));clear P0;go_wp2_with fail
  refine P1.out.mono ?_;rintro e w2 ⟨A3,n3,c3,rfl,k3,b2⟩;have Z1:=b1.size;go_wp2
  go_ret
  exact⟨_,_,_,rfl,by rw[HO.out];exact k3.base_le Z1,New.trans b1 b2⟩
end Go.Proofs.Y
namespace Go.Hm
open Go Go.RowKit
theorem qcc(k:IntKind)(l:List Int)(i:Nat)(x:Int):(zeq k l).set i (.int k x)=zeq k (l.set i x):=by simp[zeq]
theorem zx2(k:IntKind)(l m:List Int):zeq k (l++m)=zeq k l++zeq k m:=by simp[zeq]
theorem zdj(k:IntKind)(n:Nat)(x:Int):zeq k (List.replicate n x)=List.replicate n (.int k x):=by simp[zeq]
theorem Own.int0{w:World}{base:Nat}{e:TypeId}{g n c i:Nat}{k:IntKind}{l:List Int}(h:Own w base e (.slice (some ⟨g,0,none⟩) n c) (zeq k l))(hi:i<n):
 base<=g/\g<w.heap.size/\w.cell? ⟨g,i,none⟩=some (.int k (l.getD i 0))/\w.frozen? ⟨g,i,none⟩=false/\
  ∀y:Int,Own (w.setCell ⟨g,i,none⟩ (.int k y)) base e (.slice (some ⟨g,0,none⟩) n c) (zeq k (l.set i y)):=by
 have hn:=h.len;rw[zcy] at hn;obtain⟨u,h3,h1,h2,h4,h5,h6⟩:=h.at0 hi;rw[z36 k l i (by omega)] at h3;injection h3 with h3;subst h3;exact⟨h1,h2,h4,h5,fun y=>by rw[<-qcc];exact h6 _⟩
theorem zis{P:List Int}{n k:Nat}(q:Int)(hP:P.length=k)(hk:k<n):(P++List.replicate (n-k) 0).set k q=(P++[q])++List.replicate (n-(k+1)) 0:=by rw[List.set_append_right _ _ (by omega),hP,Nat.sub_self,show n-k=(n-(k+1))+1 by omega,List.replicate_succ,List.set_cons_zero,List.append_assoc];rfl
theorem zvs{P:List Nat}{n k:Nat}(q:Nat)(hP:P.length=k)(hk:k<n):(P++List.replicate (n-k) 0).set k q=(P++[q])++List.replicate (n-(k+1)) 0:=by rw[List.set_append_right _ _ (by omega),hP,Nat.sub_self,show n-k=(n-(k+1))+1 by omega,List.replicate_succ,List.set_cons_zero,List.append_assoc];rfl
end Go.Hm
namespace Go.Proofs.Y
open Go.RowKit Go.Hm
def qcd(l:List Int)(w:World)(e:Ending)(w':World):Prop:=∃A n c,e= .returned (.slice A n c)/\Go.Hm.Own w' w.heap.size 3 (.slice A n c) (zeq .i64 l)/\New w w'
def OptI(o:Option (List Int))(w:World)(e:Ending)(w':World):Prop:=
 match o with
 |none=>e= .returned (.tuple #[.slice none 0 0,.bool false])/\New w w'
 |some l=>∃A n c,e= .returned (.tuple #[.slice A n c,.bool true])/\Go.Hm.Own w' w.heap.size 3 (.slice A n c) (zeq .i64 l)/\New w w'
set_option maxRecDepth 100000 in
theorem qce{w:World}{A:Option Addr}{n c:Nat}{l:List Int}(h:Reads w w.heap.size 1 A n (zeq .i64 l))(h0:0<n)(hn:n<=1000000):
 Calls Tryz.prog 241 #[.slice A n c] w (zdk (.int .i64 (leastD l)) w):=by
 obtain rfl:=h.lenI;obtain⟨ad,rfl,_,c0⟩:=h.int h0;rw[zj1] at c0;have t1: ¬(l.length:Int)<1:=by omega
 have t2: ¬l.length<1:=by omega
 have t3:(0:Int)<(l.length:Int):=by omega
 have HR:=Hz h;have L0:Hid (zg0 l 0=l.getD 0 0):=Hz rfl;have LS:Hid (∀j,0<j->zg0 l j=min (zg0 l (j-1)) (l.getD j 0)):=Hz (fun j hj=>by obtain⟨k,rfl⟩:∃k,j=k+1:=⟨j-1,by omega⟩;rfl)
 have LD:Hid (leastD l=zg0 l (l.length-1)):=Hz rfl;clear h;generalize leastD l=LL at*;generalize zg0 l=LK at*;generalize l.getD 0 0=z0 at*;go_enter Tryz.func241,Tryz.ntmps241
 go_wp2_with fail
 go_loop [3,4] (fun v i=>∃j:Nat,0<j/\j<=l.length/\i= .int .i64 (j:Int)/\v= .int .i64 (LK (j-1))) (fun _ i=>l.length+1-(intOf i).toNat)
 case atStart=>exact⟨1,by omega,h0,rfl,by rw[Nat.sub_self,L0.out]⟩
 case round=>
  obtain⟨j,hj0,hj,rfl,rfl⟩:=hrel;clear c0;by_cases hlt:j<l.length
  ·obtain⟨ad',e,_,c1⟩:=HR.out.int hlt
   injection e with e;subst e;have hs:=LS.out j hj0;have HSK:=Hz hs;clear hs;have hki:(j:Int)<(l.length:Int):=by omega
   have hw:IntKind.i64.wrap ((j:Int)+1)=(j:Int)+1:=by rw[IntKind.wrap_i64];omega
   generalize l.getD j 0=x at*;generalize LK (j-1)=y at*;go_wp2_with fail
   go_round
   case rel=>exact⟨j+1,by omega,by omega,by go_num,by first|(rw[Nat.add_sub_cancel,HSK.out];done)|(rw[Nat.add_sub_cancel,HSK.out];exact congrArg (Value.int .i64) (by split<;> omega))⟩
   case measure=>simp[intOf];omega
  ·have hke:j=l.length:=by omega
   have hki: ¬(j:Int)<(l.length:Int):=by omega
   have hv:LK (j-1)=LL:=by rw[LD.out,hke]
   rw[hv];clear hke hv;go_wp2_with fail
   go_ret
   exact⟨rfl,rfl⟩
set_option maxRecDepth 100000 in
theorem z23{w:World}{A:Option Addr}{n c:Nat}{l:List Int}(h:Reads w w.heap.size 1 A n (zeq .i64 l))(hn:n<=1000000):
 Calls Tryz.prog 228 #[.slice A n c] w (qcd (zdu l) w):=by
 obtain rfl:=h.lenI;have HR:=Hz h;have SL:=zeu l;have HAT:=Hz (ztz l);have HS0:Hid (l.length=0->zdu l=[]):=Hz (fun e=>by rw[List.eq_nil_of_length_eq_zero e];rfl);clear h;generalize zdu l=S at*;by_cases h0:l.length=0
 ·have e0:((l.length:Int)==0)=true:=by rw[h0];rfl
  have hS:=HS0.out h0;have HS:=Hz hS;have H0:=Hz h0;clear SL h0 hS;go_enter Tryz.func228,Tryz.ntmps228
  go_wp2
  go_ret
  exact⟨none,0,0,rfl,by rw[HS.out];exact Own.nil_,New.refl _⟩
 ·have e0:((l.length:Int)==0)=false:=by rw[beq_eq_false_iff_ne];omega
  obtain⟨m,hm⟩:∃m,m=l.length-1:=⟨_,rfl⟩;rw[<-hm] at SL;have hlm:l.length=m+1:=by omega
  have hw1:IntKind.i64.wrap ((l.length:Int)-1)=(m:Int):=by rw[IntKind.wrap_i64];omega
  have HLM:=Hz hlm;have HSL:=Hz SL;clear hm hlm SL h0;go_enter Tryz.func228,Tryz.ntmps228
  go_wp2_with (refine zcf elI rfl (.tmp 10) (.tmp 10) rfl (W:=w) (B:=w.heap.size) m m rfl rfl rfl rfl (Nat.le_refl _) (Below.refl _ _) (Nat.le_refl _) rfl (by have:=HLM.out;omega) (by have:=HLM.out;simp only[maxLen];omega) ?_
               intro w1 o1 _ b1 s1)
  clear hw1 e0;go_loopw [14] (fun i wr=>∃k:Nat,k<=m/\i= .int .i64 (k:Int)/\Go.Hm.Own wr w.heap.size 3 (.slice (some ⟨w.heap.size,0,none⟩) m m) (zeq .i64 (S.take k++List.replicate (m-k) 0))/\New w wr) (fun i _=>m-(intOf i).toNat)
  case atStart=>exact⟨0,Nat.zero_le _,rfl,by simpa[zdj] using o1,b1⟩
  case round=>
   clear o1 b1 s1;obtain⟨k,hk,rfl,o,b⟩:=hrel;by_cases hlt:k<m
   ·have hlm:=HLM.out
    obtain⟨ad,rfl,_,c0⟩:=(Reads.later HR.out b).int (i:=k) (by omega);obtain⟨ad',e,_,c1⟩:=(Reads.later HR.out b).int (i:=k+1) (by omega);injection e with e;subst e;have hat:=HAT.out k (by omega);have htk:=zae S k 0 (by have:=HSL.out;omega);obtain⟨hg0,hgl,hc,hf,hset⟩:=o.int0 (i:=k) hlt;have hsl:(S.take k).length=k:=by rw[List.length_take];have:=HSL.out;omega
    have hs2:=hset (S.getD k 0);rw[zis _ hsl hlt,<-htk,hat] at hs2;have HSet:=Hz hs2;generalize(S.take k++List.replicate (m-k) 0).getD k 0=z at*;generalize l.getD k 0=x at*;generalize l.getD (k+1) 0=y at*;have hw2:IntKind.i64.wrap (y-x)=wrI (y-x):=rfl;obtain⟨j,hj⟩:∃j,j=k+1:=⟨_,rfl⟩;rw[<-hj] at c1 HSet;have hw3:IntKind.i64.wrap ((k:Int)+1)=(j:Int):=by rw[IntKind.wrap_i64];omega
    have i1:(k:Int)<(m:Int):=by omega
    have i2:(k:Int)<(l.length:Int):=by omega
    have i3:(j:Int)<(l.length:Int):=by omega
    have HJ:=Hz hj;have HB:=Hz (fun q=>(below_drewN b q).setCell (p:=⟨w.heap.size,k,none⟩) (Nat.le_refl _) (.int .i64 (wrI (y-x))));clear hat htk hset hs2 hsl hlm hj;go_wp2
    go_still_tail 13,(by kernel_rfl)
    go_wp2
    go_roundw
    case rel=>exact⟨j,by have:=HJ.out;omega,rfl,by first|exact HSet.out|exact(HSet.out).drewN _,by first|exact HB.out _|exact HB.out 0⟩
    case measure=>have:=HJ.out;simp[intOf];omega
   ·obtain rfl:k=m:=by omega
    have hS:S.take k=S:=List.take_of_length_le (by have:=HSL.out;omega);rw[hS,Nat.sub_self,List.replicate_zero,List.append_nil] at o;clear hS;go_wp2
    go_ret
    exact⟨_,_,_,rfl,o,b⟩
theorem zrp(n:Nat)(w:World)(hn:n<=1000000):Calls Tryz.prog 229 #[.int .i64 (n:Int)] w (zdk (.int .i64 (nblk n:Nat)) w):=by
 have h1:IntKind.i64.wrap ((n:Int)+32)=(n:Int)+32:=by rw[IntKind.wrap_i64];omega
 have hq:((n:Int)+31)/32=((nblk n:Nat):Int):=by unfold nblk;omega
 have HQ:=Hz hq;clear hq;generalize nblk n=q at*;go_enter Tryz.func229,Tryz.ntmps229
 go_wp2
 go_ret
 exact⟨congrArg (fun z=>Ending.returned (.int .i64 z)) (by have:=HQ.out;omega),rfl⟩
end Go.Proofs.Y
