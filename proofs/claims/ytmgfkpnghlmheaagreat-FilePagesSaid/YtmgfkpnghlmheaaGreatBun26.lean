/- Merged. -/
import Derived.Test.YtmgfkpnghlmheaaGreatBun20
set_option maxHeartbeats 4000000
namespace Go.Hm
open Go
theorem z7d(b:Bool):decide (boolN b=1)=b:=by cases b<;> decide
def z7e(s:List Nat)(p q:Nat × St):za1 × St:=((s,(p.1:Int),decide (q.1=1)),if 1<q.1 then none else q.2)
theorem z0i(S:St):zs9 S=z7e (zbr ((lenS 100 S).1:Int) (lenS 100 S).2).1 (zbf (zbr ((lenS 100 S).1:Int) (lenS 100 S).2).2) (zbf (zbf (zbr ((lenS 100 S).1:Int) (lenS 100 S).2).2).2):=rfl
theorem qb2(c:za1)(r:List Nat)(h1:c.1.length<=100)(h2:0<=c.2.1):zs9 (some (z2q c++r))=(c,some r):=by
 obtain⟨nm,t,u⟩:=c;simp only at h1 h2;obtain⟨t,rfl⟩:=Int.eq_ofNat_of_zero_le h2;have e0:z2q (nm,(t:Int),u)++r=vp nm.length++(nm++(t::boolN u::r)):=by simp[z2q]
 have e1:=zby nm.length (nm++(t::boolN u::r)) (m:=100) (by omega) (by omega);rw[z0i,e0,e1];simp only;rw[zdh];have e2:zbf (some (t::boolN u::r))=(t,some (boolN u::r)):=rfl;have e3:zbf (some (boolN u::r))=(boolN u,some r):=rfl;simp only[e2,e3];unfold z7e;simp only;rw[if_neg (by cases u<;> decide),z7d]
theorem zvj:∀(l:List za1) (r:List Nat),(∀c∈l,c.1.length<=100/\0<=c.2.1)->zej l.length (some (zj0 l++r))=(l,some r)
 | [],r,_=>rfl
 |c::l,r,h=>by
  have hc:=h c (by simp);have e:zj0 (c::l)++r=z2q c++(zj0 l++r):=by simp[zj0]
  rw[e,List.length_cons,zej,qb2 c _ hc.1 hc.2,zvj l r (fun x hx=>h x (by simp[hx]))]
theorem qb3(l:List za1)(r:List Nat)(h:zb5 l=0):getC (some (vp l.length++zj0 l++r))=(l,some r):=by obtain⟨h1,h2,_⟩:=(zdi l).1 h;unfold getC;rw[List.append_assoc,zby l.length (zj0 l++r) (m:=64) (by omega) (by omega)];simp only;rw[zvj l r (fun c hc=>⟨(h2 c hc).2.1,(h2 c hc).2.2.1⟩)];rw[if_neg (by simp[h])]
theorem zrh{S:St}{b:Nat}{r:List Nat}(h:zbf S=(b,some r)):S=some (b::r):=by
 unfold zbf at h;split at h
 ·simp only[Prod.mk.injEq,Option.some.injEq] at h
  rw[h.1,h.2]
 ·simp at h
theorem z7f{S:St}{c:za1}{r:List Nat}(hS:S.ok)(h:zs9 S=(c,some r)):S=some (z2q c++r):=by
 rw[z0i] at h;rcases zbp 100 S hS with h0|⟨N,r1,h0,hN,_,h1⟩
 ·rw[h0] at h
  simp[zdx,ziy,z7e] at h
 ·rw[h1] at h
  simp only at h;rcases zcd (N:Int) (some r1) with h2|⟨l,hl,_,h3,h2⟩
  ·rw[h2] at h
   simp[ziy,z7e] at h
  ·rw[h2] at h
   injection hl with hl;subst hl;simp only[Int.toNat_natCast] at h;generalize hb1:zbf (some (r1.drop N))=B1 at*;obtain⟨t,S3⟩:=B1;simp only at h;generalize hb2:zbf S3=B2 at*;obtain⟨u,S4⟩:=B2;unfold z7e at h;simp only[Prod.mk.injEq] at h;obtain⟨hc,hr⟩:=h;split at hr
   ·cases hr
   ·rename_i hu
    subst hr;have e2:=zrh hb2;subst e2;have e1:=zrh hb1;injection e1 with e1;rw[h0];subst hc;have hlen:(r1.take N).length=N:=by rw[List.length_take];omega
    have hbu:boolN (decide (u=1))=u:=by
     have:u=0\/u=1:=by omega
     rcases this with rfl|rfl<;> rfl
    unfold z2q;simp only[hlen,Int.toNat_natCast,hbu];rw[List.append_assoc,List.append_assoc];congr 2
    rw[show [t,u]++r=r1.drop N by rw[e1];rfl,List.take_append_drop]
theorem zri:∀(n:Nat) {S:St} {l:List za1} {r:List Nat},S.ok->zej n S=(l,some r)->S=some (zj0 l++r)
 |0,S,l,r,_,h=>by
  simp only[zej,Prod.mk.injEq] at h;obtain⟨rfl,rfl⟩:=h;rfl
 |n+1,S,l,r,hS,h=>by
  rw[zej] at h;have hok:=zxt hS;generalize hc:zs9 S=R at*;obtain⟨c,S1⟩:=R;simp only at h hok;generalize hd:zej n S1=R2 at*;obtain⟨l2,S2⟩:=R2;simp only[Prod.mk.injEq] at h;obtain⟨rfl,rfl⟩:=h;have e:=zri n hok hd;subst e;rw[z7f hS hc];simp[zj0]
theorem zg8{S:St}{l:List za1}{r:List Nat}(hS:S.ok)(h:getC S=(l,some r)):zb5 l=0/\S=some (vp l.length++zj0 l++r):=by
 unfold getC at h;rcases zbp 64 S hS with h0|⟨N,r1,h0,hN,_,h1⟩
 ·rw[h0] at h
  simp[zej] at h
 ·rw[h1] at h
  simp only at h;split at h
  ·simp at h
  ·rename_i hn
   have hok:St.ok (some r1):=St.ok_some fun x hx=>hS _ h0 x (by simp[hx])
   have e:=zri N hok h;injection e with e;have hl:l.length=N:=by rw[<-zkv N (some r1),h]
   rw[h] at hn;refine⟨?_,?_⟩
   ·by_cases hk:zb5 l=0
    ·exact hk
    ·exact absurd (.inr hk) hn
   ·rw[h0,hl,e,List.append_assoc]
theorem z7g{S:St}{l:List za1}(h:getC S=(l,none)):l=[]:=by
 unfold getC at h;split at h
 ·simp at h;exact h
 ·rename_i hn
  rw[h] at hn;simp at hn
theorem z7h(n:Nat):∀x∈vp n,x<256:=by
 induction n using Nat.strongRecOn with
 |_ n ih=>
  intro x hx;by_cases hn:n<128
  ·rw[ze4 hn] at hx
   simp at hx;omega
  ·rw[zfz hn,List.mem_cons] at hx
   rcases hx with rfl|hx
   ·omega
   ·exact ih (n/128) (by omega) x hx
theorem z7i(l:List za1)(h:∀x∈l,(∀z∈x.1,z<256)/\0<=x.2.1/\x.2.1<=3):∀x∈vp l.length++zj0 l,x<256:=by
 intro x hx;rcases List.mem_append.1 hx with hx|hx
 ·exact z7h _ x hx
 ·unfold zj0 at hx
  obtain⟨y,hy,hx⟩:=List.mem_flatMap.1 hx;obtain⟨h1,h2,h3⟩:=h y hy;unfold z2q at hx;simp only[List.mem_append,List.mem_cons,List.not_mem_nil,or_false] at hx;rcases hx with(hx|hx)|hx|hx
  ·exact z7h _ x hx
  ·exact h1 x hx
  ·omega
  ·subst hx;cases y.2.2<;> decide
end Go.Hm
namespace Go.Proofs.Y
open Go.RowKit Go.Hm
theorem z8a:ElT Tryz.prog 71 61 (.agg #[.bool false,.int .i64 0,.string ⟨#[]⟩,.int .i64 0,.int .i64 0]) 5 48:=⟨by kernel_rfl,by kernel_rfl,rfl,by omega⟩
def z8b(l:List zab)(w:World)(e:Ending)(w':World):Prop:=∃A n c A2 n2 c2,e= .returned (.tuple #[.slice A n c,.slice A2 n2 c2])/\
 Own w' w.heap.size 5 (.slice A n c) (za2 .u8 (zb4 l))/\w'.ownsRow w.heap.size 61 5 (.slice A2 n2 c2) n2 (recs zan (zb1 l))/\New w w'
theorem qf8(a:List Nat)(x y:Nat)(b:List Nat){k:Nat}(h:a.length=k):(a++x::b).set k y=(a++[y])++b:=by subst h;rw[List.set_append_right _ _ (Nat.le_refl _)];simp
set_option maxRecDepth 100000 in
theorem zqd{w:World}{A:Option Addr}{n c:Nat}{l:List zab}(h:Reads w w.heap.size 5 A n (recs zan l))(hn:n<=65536):
 Calls Tryz.prog 134 #[.slice A n c] w (z8b l w):=by
 obtain rfl:=h.lenCell;have SP:=Hz (zq6 hn);have MW:=Hz (zkp l);go_enter Tryz.func134,Tryz.ntmps134
 go_wp2_with (refine zcf elW rfl (.tmp 11) (.tmp 11) rfl (W:=w) (B:=w.heap.size) l.length l.length rfl rfl rfl rfl (Nat.le_refl _) (Below.refl _ _) (Nat.le_refl _) rfl (by omega) (by simp only[maxLen];omega) ?_
              intro w1 o1 _ b1 s1)
 go_loopw [5,15] (fun a i wr=>∃(k:Nat) (A2:Option Addr) (n2 c2:Nat),i= .int .i64 (k:Int)/\k<=l.length/\a= .slice A2 n2 c2/\n2<=k/\Own wr w.heap.size 87 (.slice (some ⟨w.heap.size,0,none⟩) l.length l.length) (za2 .u64 (zcg (l.take k)++List.replicate (l.length-k) 0))/\
  wr.ownsRow w.heap.size 61 5 (.slice A2 n2 c2) n2 (recs zan (zb1 (l.take k)))/\Below w.heap.size w wr) (fun _ i _=>l.length-(intOf i).toNat)
 case atStart=>exact⟨0,none,0,0,rfl,by omega,rfl,by omega,by simpa[zcg,zbt] using o1,by simpa[zb1,recs] using(zcp (w:=w1) (sz:=5)),b1⟩
 case round=>
  clear o1 b1 s1;obtain⟨k,A2,n2,c2,rfl,hk,rfl,hnk,o,u,b⟩:=hrel;by_cases hlt:k<l.length
  ·obtain⟨ad,rfl,_,d0,d1,d2,d3,d4⟩:=(Reads.later h b).cell5 hlt
   have MS:=Hz (z2o l k hlt);have VS:=Hz (z6y l k hlt);generalize l.getD k (false,0,[],0,0)=x at*;obtain⟨xb,xn,xs,xx,xy⟩:=x;simp only at d0 d1 d2 d3 d4;have hrep:List.replicate (l.length-k) (0:Nat)=0::List.replicate (l.length-(k+1)) 0:=by rw[show l.length-k=(l.length-(k+1))+1 by omega];rfl
   rw[hrep] at o;have hml:(zcg (l.take k)).length=k:=by rw[zfa,List.length_take];omega
   have i1:(k:Int)<(l.length:Int):=by omega
   obtain⟨W2,hW2⟩:∃W,W=wr.alloc (.cells #[.bool xb,.int .i64 xn,.string (zac xs),.int .i64 xx,.int .i64 xy] 61):=⟨_,rfl⟩;have b2:New wr W2:=by rw[hW2];exact(Below.refl _ _).alloc (Nat.le_refl _) _
   have B2:Blk W2 wr.heap.size 61 #[.bool xb,.int .i64 xn,.string (zac xs),.int .i64 xx,.int .i64 xy]:=by rw[hW2];exact Blk.new _ _ _
   have o2:=o.later b2;have u2:=zav u b2;have b02:=zgv b b2 (Nat.le_refl _);obtain⟨p0,p1,p2,p3,p4⟩:=zcb B2;have HW2:=Hz hW2;cases xb with
   |true=>
    have MS:=MS.out;have VS:=VS.out;simp only[z9s,if_true,List.append_nil] at MS VS;have MS:=Hz MS;have VS:=Hz VS;rw[hW2] at p0 p1 p2 p3 p4;clear hW2 o u b;go_wp2_with fail
    rw[<-HW2.out];go_roundw
    case rel=>exact⟨k+1,_,_,_,by go_num,by omega,rfl,by omega,by rw[MS.out,List.append_assoc];exact o2,by rw[VS.out];exact u2,b02⟩
    case measure=>simp[intOf];omega
   |false=>
    have MS:=MS.out;have VS:=VS.out;simp only[z9s,Bool.false_eq_true,if_false] at MS VS;have MS:=Hz MS;have VS:=Hz VS;obtain⟨hg0,hgl,hc,hf,hset⟩:=o2.num0 (i:=k) hlt;have o3:=hset 1;rw[qf8 _ _ _ _ hml] at o3;have hc0:(zcg (l.take k)++0::List.replicate (l.length-(k+1)) 0).getD k 0=0:=by rw[List.getD_eq_getElem?_getD,List.getElem?_append_right (by omega),hml,Nat.sub_self];rfl
    rw[hc0] at hc;rw[hW2] at p0 p1 p2 p3 p4 hc hf;obtain⟨W3,hW3⟩:∃W,W=W2.setCell ⟨w.heap.size,k,none⟩ (.int .u64 1):=⟨_,rfl⟩;have g3:W2.grownBy W3 (some w.heap.size):=by rw[hW3];exact⟨rfl,rfl,rfl,by simp[World.setCell],fun k _ hk=>Below.heap_setCell _ _ _ _ (by simpa using hk)⟩
    obtain⟨cs3,M3⟩:=o2.row w.heap.size rfl;have u3:=World.ownsRow.kept u2 g3 (.inr (zao u2 M3 (by decide)));have B3:=B2.grown g3 (by have:=Blk.ne_ B2 M3 (by decide);simpa using this);have b03:Below w.heap.size w W3:=b02.grown g3 b02.size (fun k hk=>by injection hk with hk;omega);have o3:Own W3 w.heap.size 87 (.slice (some ⟨w.heap.size,0,none⟩) l.length l.length) (za2 .u64 (zcg (l.take k)++[1]++List.replicate (l.length-(k+1)) 0)):=by rw[hW3];exact o3
    have HW3:=Hz (show W3=(wr.alloc (.cells #[.bool false,.int .i64 xn,.string (zac xs),.int .i64 xx,.int .i64 xy] 61)).setCell ⟨w.heap.size,k,none⟩ (.int .u64 1) by rw[hW3,hW2]);obtain⟨q0,q1,q2,q3,q4⟩:=zcb B3;rw[HW3.out] at q0 q1 q2 q3 q4;obtain⟨cs4,M4⟩:=o3.row w.heap.size rfl;have z3:=b03.size;have HZ3:=Hz (show wr.heap.size+1=W3.heap.size by rw[hW3,hW2];simp[World.setCell]);clear hW2 hW3 hset hc0 o u b o2 u2 B2 b02 M3 g3;go_wp2_with (first
     |(rw[<-HW3.out]
       refine zdc z8a rfl (.tmp 26) (.tmp 28) rfl (W:=w) (B:=w.heap.size) (base:=w.heap.size) (n:=n2) u3 rfl (by rw[<-HZ3.out];rfl) b03 (Nat.le_refl _) z3 rfl (by simp[Value.oneCell']) (by omega) (by simp only[maxLen];omega) ?_;intro A5 c5 w5 _ _ u5 g5 b5 _ _))
    go_roundw
    case rel=>exact⟨k+1,_,_,_,by go_num,by omega,rfl,by omega,by rw[MS.out];exact o3.kept g5 (.inr (fun e=>zao u3 M4 (by decide) e.symm)),by rw[VS.out,zas];exact u5,b5⟩
    case measure=>simp[intOf];omega
  ·obtain rfl:k=l.length:=by omega
   rw[Nat.sub_self,List.replicate_zero,List.append_nil,List.take_length] at o;rw[List.take_length] at u;have P:=zmw (c:=l.length) 1 o.reads MW.out.2 (by omega) (by omega) (by omega);rw[SP.out] at P;have P:=Hz P;clear hlt o;go_wp2_with fail
   refine P.out.mono ?_;rintro e w5 ⟨A5,n5,c5,rfl,o5,b5⟩;go_wp2
   go_ret2
   have z:=b.size;exact⟨_,_,_,_,_,_,rfl,o5.base_le z,zav u b5,zgv b b5 (Nat.le_refl _)⟩
end Go.Proofs.Y
namespace Go.Hm
theorem z3e{m:List Nat}(h:∀y∈m,y<2^1):m.sum<=m.length:=by
 induction m with
 |nil=>simp
 |cons y m ih=>
  have:=ih fun z hz=>h z (by simp[hz])
  have:=h y (by simp);simp;omega
end Go.Hm
namespace Go.Proofs.Y
open Go.RowKit Go.Hm
set_option maxRecDepth 100000 in
theorem zvz{w:World}{A:Option Addr}{m c:Nat}{b:List Nat}{n:Int}(h:Reads w w.heap.size 1 A m (za2 .u8 b))(h8:∀x∈b,x<256)(hm:m<=9223372036854775807)(hn0: -9223372036854775808<=n)(hn:n<=9223372036854775807):
 Calls Tryz.prog 124 #[.slice A m c,.int .i64 n] w (zak (.int .i64 (zp1 (zbh b 1 n))) w):=by
 have P:=zgx (c:=c) 1 n h h8 hm (by omega) (by omega) hn0 hn;have HU:=Hz (fun(l:List Nat) (hh:zbh b 1 n=some l)=>zsz h8 hh);generalize zbh b 1 n=U at*;cases U with
 |none=>
  have P:=Hz P;go_enter Tryz.func124,Tryz.ntmps124
  go_wp2_with fail
  refine P.out.mono ?_;rintro e w1 ⟨rfl,b1⟩;go_wp2
  go_ret
  exact⟨rfl,b1⟩
 |some l=>
  obtain⟨_,_,q3,q4⟩:=HU.out l rfl;have hsl:=z3e q3;have P:=Hz P;have CN:=Hz (show zp1 (some l)=((l.take l.length).sum:Nat) by rw[List.take_length];rfl);generalize zp1 (some l)=O at*;clear HU;go_enter Tryz.func124,Tryz.ntmps124
  go_wp2_with fail
  refine P.out.mono ?_;rintro e w1 ⟨A1,n1,c1,rfl,o1,b1⟩;obtain rfl:n1=l.length:=by have:=o1.len;rwa[zaa] at this
  go_wp2
  go_loopw [7,20] (fun s i wr=>∃k:Nat,i= .int .i64 (k:Int)/\k<=l.length/\s= .int .i64 (((l.take k).sum:Nat):Int)/\w1=wr) (fun _ i _=>l.length-(intOf i).toNat)
  case atStart=>exact⟨0,rfl,by omega,by simp,rfl⟩
  case round=>
   obtain⟨k,rfl,hk,rfl,rfl⟩:=hrel;by_cases hlt:k<l.length
   ·obtain⟨ad,rfl,_,c0⟩:=o1.reads.num hlt
    have HS:=Hz (zz9 hlt);have hs1:=zl6 (m:=l) k;have hy:l.getD k 0<2:=q3 _ (zc5 0 hlt);generalize l.getD k 0=y at*;generalize(l.take k).sum=s at*;have i1:(k:Int)<(l.length:Int):=by omega
    have hw1:IntKind.i64.wrap (y:Int)=(y:Int):=by rw[IntKind.wrap_i64];omega
    have hw2:IntKind.i64.wrap ((s:Int)+(y:Int))=(s:Int)+(y:Int):=by rw[IntKind.wrap_i64];omega
    go_wp2
    go_roundw
    case rel=>exact⟨k+1,by go_num,by omega,by rw[HS.out];simp,trivial⟩
    case measure=>simp[intOf];omega
   ·obtain rfl:k=l.length:=by omega
    rw[<-CN.out];go_wp2
    go_ret
    exact⟨rfl,b1⟩
end Go.Proofs.Y
namespace Go.Hm
open Go Go.RowKit
theorem zx9(a b c d f:Value)(n:Nat):(madeCells #[a,b,c,d,f] (n*5)).toList=(List.replicate n [a,b,c,d,f]).flatten:=by
 induction n with
 |zero=>simp[madeCells]
 |succ n ih=>
  rw[List.replicate_succ',List.flatten_append,<-ih];have e:∀m,m%5=0->(madeCells #[a,b,c,d,f] (m+5)).toList=(madeCells #[a,b,c,d,f] m).toList++[a,b,c,d,f]:=by intro m hm;simp only[madeCells,Array.toList_map,Array.toList_range,List.range_succ,List.map_append,List.map_cons,List.map_nil,List.append_assoc,List.cons_append,List.nil_append,List.size_toArray,List.length_cons,List.length_nil];rw[hm,show(m+1)%5=1 by omega,show(m+2)%5=2 by omega,show(m+3)%5=3 by omega,show(m+4)%5=4 by omega];rfl
  rw[Nat.succ_mul,e (n*5) (by omega)];simp
theorem z8c{A B:List Value}{x0 x1 x2 x3 x4 a b c d f:Value}{m:Nat}(h:A.length=m):(((((A++([x0,x1,x2,x3,x4]++B)).set m a).set (m+1) b).set (m+2) c).set (m+3) d).set (m+4) f=A++([a,b,c,d,f]++B):=by subst h;rw[List.set_append_right _ _ (Nat.le_refl _),List.set_append_right _ _ (by omega),List.set_append_right _ _ (by omega),List.set_append_right _ _ (by omega),List.set_append_right _ _ (by omega)];simp
theorem z0q{w:World}{base:Nat}{e:TypeId}{g n c m:Nat}{A B:List Value}{x0 x1 x2 x3 x4 a b d f k:Value}(h:w.ownsRow base e 5 (.slice (some ⟨g,0,none⟩) n c) n (A++([x0,x1,x2,x3,x4]++B)))(hm:A.length=m):
 ∃W,W=((((w.setCell ⟨g,m,none⟩ a).setCell ⟨g,m+1,none⟩ b).setCell ⟨g,m+2,none⟩ d).setCell ⟨g,m+3,none⟩ f).setCell ⟨g,m+4,none⟩ k/\W.ownsRow base e 5 (.slice (some ⟨g,0,none⟩) n c) n (A++([a,b,d,f,k]++B))/\w.grownBy W (some g):=by
 obtain⟨h1,g1⟩:=h.stored m a;obtain⟨h2,g2⟩:=h1.stored (m+1) b;obtain⟨h3,g3⟩:=h2.stored (m+2) d;obtain⟨h4,g4⟩:=h3.stored (m+3) f;obtain⟨h5,g5⟩:=h4.stored (m+4) k;rw[z8c hm] at h5;exact⟨_,rfl,h5,(((g1.trans g2).trans g3).trans g4).trans g5⟩
section
variable{P:Program}{ops:Array Oper}{rest:List Oper}{o:Oper}{a:Act}{Q:Exit->Act->World->Prop}
theorem z3f{w:World}{t e:TypeId}{x0 x1 x2 x3 x4:Value}{bytes:Nat}(E:ElT P t e (.agg #[x0,x1,x2,x3,x4]) 5 bytes)(hgd:o.guard=none)(lo co:Operand)(ho:o.op=Op.makeSlice t lo co)
 (h5:(Value.agg #[x0,x1,x2,x3,x4]).cells= #[x0,x1,x2,x3,x4])
 {W:World}{B:Nat}{kl kc:IntKind}{L C:Int}(n:Nat)(hl:a.eval lo= .int kl L)(hc:a.eval co= .int kc C)(hL:L=(n:Int))(hC:C=(n:Int))(hb:Below B W w)(hbase:B<=w.heap.size)
 (hn:n*bytes<=140737488355328)(hm:n<=maxLen)
 (h:∀w',w'.ownsRow w.heap.size e 5 (.slice (some ⟨w.heap.size,0,none⟩) n n) n (List.replicate n [x0,x1,x2,x3,x4]).flatten->w.grownBy w' none->Below B W w'->w'.heap.size=w.heap.size+1->wpList P ops Q rest (a.put o.dst (.slice (some ⟨w.heap.size,0,none⟩) n n)) w'):
 wpList P ops Q (o::rest) a w:=by
 obtain⟨i,hi,hz0,hs1,hb1⟩:=info_parts E.hi;subst hL hC;have hmC:(n:Int)<=9223372036854775807:=by have h:=hm;simp only[maxLen] at h;omega
 have hbC:(i.bytes:Int)*(n:Int)<=281474976710656:=by
  have h:((i.bytes*n:Nat):Int)<=281474976710656:=by rw[hb1,Nat.mul_comm];omega
  rwa[Int.natCast_mul] at h
 have hrun:=run_make (P:=P) w t e i (.agg #[x0,x1,x2,x3,x4]) E.ht hi hz0 kl kc (n:Int) (n:Int) (by omega) (by omega) hbC hmC;rw[Int.toNat_natCast,hs1,h5] at hrun;refine wpList_plain hgd fun K hK=>?_
 unfold Oper.wp;simp[execOp,ho,hl,hc,hrun,Result.andThen];refine hK _ _ (h _ ?_ (World.grownBy_alloc _ _ _) (hb.alloc hbase _) (by simp));refine⟨by simp,.inr ⟨_,n,_,rfl,Nat.le_refl _,heap_alloc_new w _,Nat.le_refl _,hm,by simp[size_madeCells],?_⟩⟩;rw[List.take_of_length_le (by simp[size_madeCells])];exact zx9 x0 x1 x2 x3 x4 n
end
end Go.Hm
namespace Go.Proofs.Y
open Go.RowKit Go.Hm
def qcr(o:Option (List zab))(w:World)(e:Ending)(w':World):Prop:=
 match o with
 |none=>e= .returned (.tuple #[.slice none 0 0,.bool false])/\New w w'
 |some x=>∃A c,e= .returned (.tuple #[.slice A x.length c,.bool true])/\w'.ownsRow w.heap.size 61 5 (.slice A x.length c) x.length (recs zan x)/\New w w'
theorem qcs{m:List Nat}{r:List zab}(h:m.sum=r.length):zom (some m) r=zf6 m r:=by rw[zom];simp[h]
theorem qct{U:Option (List Nat)}{r:List zab}(h:zp1 U≠(r.length:Int)):zom U r=none:=by
 cases U with
 |none=>rfl
 |some m=>
  rw[zom];have: ¬m.sum=r.length:=fun e=>h (by simp[zp1,e])
  simp[this]
set_option maxRecDepth 100000 in
theorem qcu{w:World}{A:Option Addr}{mm c:Nat}{b:List Nat}{n:Int}{A2:Option Addr}{nr c2:Nat}{r:List zab}(h:Reads w w.heap.size 1 A mm (za2 .u8 b))(h8:∀x∈b,x<256)(hm:mm<=9223372036854775807)(hn0: -9223372036854775808<=n)(hn:n<=9223372036854775807)
 (h2:Reads w w.heap.size 5 A2 nr (recs zan r))(hnr:nr<=9223372036854775807):
 Calls Tryz.prog 127 #[.slice A mm c,.slice A2 nr c2,.int .i64 n] w (qcr (zom (zbh b 1 n) r) w):=by
 obtain rfl:=h2.lenCell;have P1:=Hz (zvz (c:=c) h h8 hm hn0 hn);have P2:=fun(W:World) (hW:New w W)=>zgx (w:=W) (c:=c) 1 n (Reads.later h hW) h8 hm (by omega) (by omega) hn0 hn
 have HU:=Hz (fun(l:List Nat) (hh:zbh b 1 n=some l)=>zsz h8 hh);generalize zbh b 1 n=U at*;by_cases hc:zp1 U=(r.length:Int)
 ·cases U with
  |none=>simp[zp1] at hc
  |some m=>
   have hs:m.sum=r.length:=by simp[zp1] at hc;omega
   obtain⟨_,q2,q3,q4⟩:=HU.out m rfl;subst q2;rw[qcs hs];obtain⟨J,hJ⟩:∃J,J=zf6 m r:=⟨_,rfl⟩;rw[<-hJ];have HJ:=Hz hJ;have HS:=Hz hs;have Q3:=Hz q3;have P2:=Hz P2;generalize zp1 (some m)=cn at*;subst hc;clear HU hJ hs q3 hn0;go_enter Tryz.func127,Tryz.ntmps127
   go_wp2_with fail
   refine P1.out.mono ?_;rintro e w1 ⟨rfl,b1⟩;have P2:=Hz (P2.out w1 b1);go_wp2_with fail
   refine P2.out.mono ?_;rintro e w2 ⟨A5,n5,c5,rfl,o5,b2⟩;obtain rfl:n5=m.length:=by have:=o5.len;rwa[zaa] at this
   have b02:=New.trans b1 b2;have o5:=Hz (fun(W:World) (hW:New w2 W)=>o5.later hW);have z2:=b02.size;clear P1 P2 b1 b2
   go_wp2_with (refine z3f z8a rfl (.tmp 26) (.tmp 26) rfl rfl (W:=w2) (B:=w2.heap.size) m.length rfl rfl rfl rfl (Below.refl _ _) (Nat.le_refl _) (by omega) (by simp only[maxLen];omega) ?_
                intro w3 u3 _ b3 s3)
   obtain⟨gm,hgm⟩:∃g,g=w2.heap.size:=⟨_,rfl⟩;have HGM:=Hz hgm;rw[<-hgm] at u3⊢;clear hgm;go_loopw [11,30] (fun a i wr=>∃(k q:Nat) (pre:List zab),i= .int .i64 (k:Int)/\a= .int .i64 (q:Int)/\k<=m.length/\pre.length=k/\Hid (q=(m.take k).sum)/\
    wr.ownsRow gm 61 5 (.slice (some ⟨gm,0,none⟩) m.length m.length) m.length (recs zan (pre++List.replicate (m.length-k) (false,0,[],0,0)))/\Hid (J=(zf6 (m.drop k) (r.drop q)).map (pre++ ·))/\New w2 wr) (fun _ i _=>m.length-(intOf i).toNat)
   case atStart=>exact⟨0,0,[],rfl,rfl,by omega,rfl,Hz (by simp),by simpa[recs,List.flatMap_replicate,zan,zac] using u3,Hz (by rw[HJ.out];simp),b3⟩
   case round=>
    clear u3 b3 s3;obtain⟨k,q,pre,rfl,rfl,hk,hpre,HQ,u,HJJ,b3⟩:=hrel;have b03:=New.trans b02 b3;by_cases hlt:k<m.length
    ·obtain⟨ad,e5,_,c0⟩:=(o5.out wr b3).reads.num hlt
     subst e5;have hy:m.getD k 0<2:=Q3.out _ (zc5 0 hlt);have HSN:=Hz (zz9 hlt);have HSL:=Hz (zl6 (m:=m) (k+1));have JS:=Hz (zq4 (r:=r) (q:=q) hlt);have JV:=Hz (fun(h0: ¬m.getD k 0=0) (hq:q<r.length)=>z6z hlt h0 hq);have hrep:List.replicate (m.length-k) ((false,0,[],0,0):zab)=(false,0,[],0,0)::List.replicate (m.length-(k+1)) (false,0,[],0,0):=by rw[show m.length-k=(m.length-(k+1))+1 by omega];rfl
     have hpl:(recs zan pre).length=k*5:=by rw[zat (sz:=5) (fun _=>rfl),hpre]
     rw[hrep,zas,zg1] at u;have f0:=u.frozenAt (k*5);have f1:=u.frozenAt (k*5+1);have f2:=u.frozenAt (k*5+2);have f3:=u.frozenAt (k*5+3);have f4:=u.frozenAt (k*5+4);have e0:=u.cellAt (k*5) (by omega);have e1:=u.cellAt (k*5+1) (by omega);have e2:=u.cellAt (k*5+2) (by omega);have e3:=u.cellAt (k*5+3) (by omega);have e4:=u.cellAt (k*5+4) (by omega);rw[List.getElem?_append_right (by omega),hpl] at e0 e1 e2 e3 e4;simp[zan] at e0 e1 e2 e3 e4;have HU:=Hz u;have HPL:=Hz hpl;have i1:(k:Int)<(m.length:Int):=by omega
     have RR:=Hz (fun(hq:q<r.length)=>(Reads.later h2 b03).cell5 hq);generalize m.getD k 0=y at*;clear u hrep hpl;by_cases h0:y=0
     ·subst h0
      have JS:=JS.out;rw[if_pos rfl] at JS;have HJ2:=Hz (show J=(zf6 (m.drop (k+1)) (r.drop q)).map ((pre++[nullC])++ ·) by rw[HJJ.out,JS,Option.map_map];congr 1;funext z;simp)
      have HQ2:=Hz (show q=(m.take (k+1)).sum by rw[HSN.out,<-HQ.out];rfl);clear JS JV HJJ HSN HSL HQ;obtain⟨W4,hW4,u4,g4⟩:=z0q (a:= .bool true) (b:= .int .i64 0) (d:= .string (zac [])) (f:= .int .i64 0) (k:= .int .i64 0) HU.out HPL.out;have HW4:=Hz (show W4=((((wr.setCell ⟨gm,k*5,none⟩ (.bool true)).setCell ⟨gm,k*5+1,none⟩ (.int .i64 0)).setCell ⟨gm,k*5+2,none⟩ (.string ⟨#[]⟩)).setCell ⟨gm,k*5+3,none⟩ (.int .i64 0)).setCell ⟨gm,k*5+4,none⟩ (.int .i64 0) from hW4);have b4:New w2 W4:=b3.grown g4 b3.size (fun k hk=>by injection hk with hk;have:=HGM.out;omega);clear hW4 HU RR;go_wp2
      rw[<-HW4.out];go_roundw
      case rel=>exact⟨k+1,q,pre++[nullC],by go_num,rfl,by omega,by simp[hpre],HQ2,by rw[List.append_assoc,zas];exact u4,HJ2,b4⟩
      case measure=>simp[intOf];omega
     ·obtain rfl:y=1:=by omega
      have hq:q<r.length:=by have:=HSN.out;have:=HSL.out;have:=HQ.out;have:=HS.out;omega
      have JV:=JV.out (by omega) hq;obtain⟨ad2,e6,_,d0,d1,d2,d3,d4⟩:=RR.out hq;subst e6;have HQ2:=Hz (show q+1=(m.take (k+1)).sum by rw[HSN.out,<-HQ.out]);generalize r.getD q (false,0,[],0,0)=x at*;obtain⟨xb,xn,xs,xx,xy⟩:=x;simp only at d0 d1 d2 d3 d4 JV;have i2:(q:Int)<(r.length:Int):=by omega
      cases xb with
      |true=>
       have HJ2:=Hz (show J=none by rw[HJJ.out,JV];rfl);clear JV JS HJJ HU RR HSN HSL;go_wp2
       go_ret2
       rw[HJ2.out];exact⟨rfl,b03⟩
      |false=>
       have HJ2:=Hz (show J=(zf6 (m.drop (k+1)) (r.drop (q+1))).map ((pre++[(false,xn,xs,xx,xy)])++ ·) by rw[HJJ.out,JV,if_neg (by simp),Option.map_map];congr 1;funext z;simp)
       clear JV JS HJJ HSN HSL HQ;obtain⟨W4,hW4,u4,g4⟩:=z0q (a:= .bool false) (b:= .int .i64 xn) (d:= .string (zac xs)) (f:= .int .i64 xx) (k:= .int .i64 xy) HU.out HPL.out;have HW4:=Hz hW4;have b4:New w2 W4:=b3.grown g4 b3.size (fun k hk=>by injection hk with hk;have:=HGM.out;omega);clear hW4 HU RR;go_wp2
       rw[<-HW4.out];go_roundw
       case rel=>exact⟨k+1,q+1,pre++[(false,xn,xs,xx,xy)],by go_num,by go_num,by omega,by simp[hpre],HQ2,by rw[List.append_assoc,zas];exact u4,HJ2,b4⟩
       case measure=>simp[intOf];omega
    ·obtain rfl:k=m.length:=by omega
     rw[Nat.sub_self,List.replicate_zero,List.append_nil] at u;have HJ2:=Hz (show J=some pre by rw[HJJ.out,z60];simp);have HP:=Hz hpre;clear HJJ HQ hlt hpre;go_wp2
     go_ret2
     rw[HJ2.out];refine⟨some ⟨gm,0,none⟩,m.length,by rw[HP.out];rfl,?_,b03⟩;rw[HP.out];exact zbg u (by have:=HGM.out;omega)
 ·rw[qct hc]
  generalize zp1 U=cn at*;have e1:(cn != (r.length:Int))=true:=by simpa using hc
  clear hc HU P2;go_enter Tryz.func127,Tryz.ntmps127
  go_wp2_with fail
  refine P1.out.mono ?_;rintro e w1 ⟨rfl,b1⟩;go_wp2
  go_ret2
  exact⟨rfl,b1⟩
end Go.Proofs.Y
namespace Go.Hm
open Go Go.RowKit
def z02(c:za1):Prop:=(∀z∈c.1,z<256)/\c.1.length<=140737488351232
def qdc(c:zab):Prop:=c.2.2.1.length<=140737488351232/\ ∀z∈c.2.2.1,z<256
end Go.Hm
namespace Go.Proofs.Y
open Go.RowKit Go.Hm
structure TabOwn(w:World)(B:Nat)(Ac:Option Addr)(cc:Nat)(L:List za1)(Ad:Option Addr)(cd:Nat)(D:List zdw):Prop where
 cols:w.ownsRow B 70 3 (.slice Ac L.length cc) L.length (recs zhq L)
 data:w.ownsRow B 71 1 (.slice Ad D.length cd) D.length (recs zgd D)
 rows:RowsIn w B D
section
variable{w w':World}{B:Nat}{Ac:Option Addr}{cc:Nat}{L:List za1}{Ad:Option Addr}{cd:Nat}{D:List zdw}
theorem TabOwn.later(h:TabOwn w B Ac cc L Ad cd D)(hb:New w w'):TabOwn w' B Ac cc L Ad cd D:=⟨zav h.cols hb,zav h.data hb,h.rows.later hb⟩
theorem TabOwn.far{g:Nat}(h:TabOwn w B Ac cc L Ad cd D)(hg:w.grownBy w' (some g))(hB:g<B):TabOwn w' B Ac cc L Ad cd D:=
 ⟨World.ownsRow.kept h.cols hg (.inr (fun e=>by have:=(World.ownsRow.lt h.cols _ e).1;omega)),World.ownsRow.kept h.data hg (.inr (fun e=>by have:=(World.ownsRow.lt h.data _ e).1;omega)),
  fun d hd=>World.ownsRow.kept (h.rows d hd) hg (.inr (fun e=>by have:=(World.ownsRow.lt (h.rows d hd) _ e).1;omega))⟩
theorem TabOwn.tabIn(h:TabOwn w B Ac cc L Ad cd D)(hl:L.length<=100000)(hdl:D.length<=100000)(hL:∀x∈L,z02 x)(hD:∀d∈D,∀y∈d.2.2,qdc y):TabIn w Ac cc L Ad D:=by
 obtain⟨_,_,e1,q1,q2⟩:=zcl h.cols;obtain⟨_,_,e2,q3,q4⟩:=zcl h.data;injection e1 with e1 _ e1c;injection e2 with e2 _ e2c;subst e1 e1c e2 e2c;refine⟨Reads.of_own h.cols,hL,q1,by omega,Reads.of_own h.data,by omega,fun d hd=>?_⟩;have hr:=h.rows d hd;obtain⟨_,_,e3,q5,q6⟩:=zcl hr;injection e3 with e3 _ e3c;subst e3 e3c;refine⟨Reads.of_own hr,fun y hy=>hD d hd y hy,q5,by simp only[maxLen] at q6;omega,fun hn=>?_⟩;rcases hr.2 with⟨hv,_⟩|⟨g,cap,cur,hv,_⟩
 ·injection hv
 ·injection hv with hv
  rw[hn] at hv;cases hv
theorem TabPost.own{er:Int}{r:Int}{C:List (List zab)}{e:Ending}(h:TabPost er L r C w e w'):
 ∃(Ac Ad:Option Addr) (cc cd:Nat) (D:List zdw),e= .returned (.tuple #[.agg #[.slice Ac L.length cc,.int .i64 r,.slice Ad D.length cd],.int .i64 er])/\TabOwn w' w.heap.size Ac cc L Ad cd D/\D.map (·.2.2)=C/\New w w':=by
 obtain⟨Ac,Ad,cc,cd,D,rfl,h1,h2,h3,h4,h5⟩:=h;exact⟨Ac,Ad,cc,cd,D,rfl,⟨h1,h2,h3⟩,h4,h5⟩
end
end Go.Proofs.Y
