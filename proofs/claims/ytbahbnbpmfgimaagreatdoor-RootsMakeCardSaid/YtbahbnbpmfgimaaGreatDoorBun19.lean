import Derived.Test.YtbahbnbpmfgimaaGreatDoorBun10
import Derived.Test.YtbahbnbpmfgimaaGreatDoorBun13
import Derived.Test.YtbahbnbpmfgimaaGreatDoorBun18
set_option maxHeartbeats 4000000
set_option maxRecDepth 100000
namespace Go.Proofs.Y
open Go.RowKit Go.Hm
def wrI(x:Int):Int:=IntKind.i64.wrap x
theorem qis(x:Int):wrI x=(x+9223372036854775808)%18446744073709551616-9223372036854775808:=by unfold wrI;rw[qrl]
def zjg(x:Int):Prop:= -9223372036854775808<=x/\x<=9223372036854775807
theorem qit(x:Int):zjg (wrI x):=by rw[qis];unfold zjg;omega
theorem zo8{x:Int}(h:zjg x):zig x<18446744073709551616:=by unfold zjg at h;unfold zig;split<;> omega
def zen:List Int->List Int
 |x::y::l=>wrI (y-x)::zen (y::l)
 |_=>[]
theorem zjh:∀l:List Int,(zen l).length=l.length-1
 | []=>rfl
 | [_]=>rfl
 |x::y::l=>by
  have:=zjh (y::l);rw[zen,qm9,this];simp
theorem zu7:∀(l:List Int) (k:Nat),k+1<l.length->(zen l).getD k 0=wrI (l.getD (k+1) 0-l.getD k 0)
 | [],k,h=>by simp at h
 | [_],k,h=>by simp at h
 |x::y::l,0,h=>rfl
 |x::y::l,k+1,h=>by
  have:=zu7 (y::l) k (by simpa using h);rw[zen,qp8,this];rfl
theorem zk3:∀(l:List Int),∀s∈zen l,zjg s
 | [],_,h=>by simp[zen] at h
 | [_],_,h=>by simp[zen] at h
 |x::y::l,s,h=>by
  rw[zen] at h;rcases qnu.1 h with rfl|h
  ·exact qit _
  ·exact zk3 (y::l) s h
def zhl(l:List Int):Nat->Int
 |0=>l.getD 0 0
 |k+1=>min (zhl l k) (l.getD (k+1) 0)
def leastD(l:List Int):Int:=zhl l (l.length-1)
theorem zu8(l:List Int):∀k i,i<=k->zhl l k<=l.getD i 0
 |0,i,h=>by
  obtain rfl:i=0:=by omega
  exact Int.le_refl _
 |k+1,i,h=>by
  rw[zhl];rcases qma i (k+1) with e|e
  ·have:=zu8 l k i (by omega)
   omega
  ·obtain rfl:i=k+1:=by omega
   omega
theorem zu9(l:List Int):∀k,∃i,i<=k/\zhl l k=l.getD i 0
 |0=>⟨0,ql6 _,rfl⟩
 |k+1=>by
  obtain⟨i,hi,e⟩:=zu9 l k;rw[zhl];rcases Int.le_total (zhl l k) (l.getD (k+1) 0) with h|h
  ·exact⟨i,by omega,by rw[Int.min_eq_left h,e]⟩
  ·exact⟨k+1,ql6 _,by rw[Int.min_eq_right h]⟩
theorem zis{l:List Int}{i:Nat}(h:i<l.length):l.getD i 0∈l:=by rw[qnp,qlx h];exact qml h
theorem z63{l:List Int}(h:∀x∈l,zjg x){k:Nat}(hk:k<l.length):zjg (zhl l k):=by obtain⟨i,hi,e⟩:=zu9 l k;rw[e];exact h _ (zis (by omega))
theorem zo9{l:List Int}(h:∀x∈l,zjg x)(hl:0<l.length):zjg (leastD l):=z63 h (by omega)
theorem zva{l:List Int}{x:Int}(h:x∈l):leastD l<=x:=by obtain⟨i,hi,rfl⟩:=qo4 h;have:=zu8 l (l.length-1) i (by omega);rw[qnp,qlx hi] at this;exact this
def zft(l:List Int):List Nat:=l.map fun s=>(s-leastD l).toNat
theorem z64(l:List Int):(zft l).length=l.length:=by simp[zft]
theorem ztc{l:List Int}(h:∀x∈l,zjg x):∀m∈zft l,m<=18446744073709551615:=fun m hm=>by obtain⟨s,hs,rfl⟩:=qly.1 hm;have h1:=h s hs;have h2:=zo9 h (List.length_pos_of_mem hs);have h3:=zva hs;unfold zjg at h1 h2;omega
def blockD(l:List Int):List Nat:=vp (zig (leastD l))++(wid (zft l)::low (pk (wid (zft l)) (zft l)) ((wid (zft l)*l.length+7)/8))
theorem zrn{l:List Int}(h:∀x∈l,zjg x)(hl:0<l.length)(hl2:l.length<=32):(blockD l).length<=268:=by have h1:=zas (zo8 (zo9 h hl));have h2:=zo2 _ (ztc h);have h3:wid (zft l)*l.length<=64*32:=qp5 h2 hl2;unfold blockD;rw[qmv,qm9,zbe];omega
def blk(s:List Int)(k:Nat):List Int:=(s.drop (k*32)).take 32
theorem ztd(s:List Int)(k:Nat):(blk s k).length=min 32 (s.length-k*32):=by simp[blk]
theorem z0f{s:List Int}(h:∀x∈s,zjg x)(k:Nat):∀x∈blk s k,zjg x:=fun x hx=>h x (qoo (qmu hx))
def zc1(s:List Int)(K:Nat):List Nat:=(List.range K).flatMap fun k=>blockD (blk s k)
theorem zk4(s:List Int):zc1 s 0=[]:=rfl
theorem zk5(s:List Int)(k:Nat):zc1 s (k+1)=zc1 s k++blockD (blk s k):=by unfold zc1;rw[qpp,qpl];simp
def nblk(n:Nat):Nat:=(n+31)/32
theorem zit{s:List Int}(h:∀x∈s,zjg x):∀k,k<=nblk s.length->(zc1 s k).length<=268*k
 |0,_=>by simp[zk4]
 |k+1,hk=>by
  have ih:=zit h k (by omega);unfold nblk at hk;have:=zrn (z0f h k) (by rw[ztd];omega) (by rw[ztd];omega);rw[zk5,qmv];omega
def zvb(l:List Int):Option (List Nat):=
 if 65536<l.length then none else if l.length=0 then some [] else some (vp (zig (l.getD 0 0))++zc1 (zen l) (nblk (l.length-1)))
theorem qcf{l:List Int}{b:List Nat}(h:zvb l=some b):l.length<=65536:=by
 unfold zvb at h;split at h
 ·cases h
 ·omega
theorem zk6{l:List Int}{b:List Nat}(hl:∀x∈l,zjg x)(h:zvb l=some b):b.length<=600000:=by
 have h0:=qcf h;unfold zvb at h;rw[if_neg (by omega)] at h;split at h
 ·injection h with h
  subst h;simp
 ·injection h with h
  subst h;have h1:=zas (zo8 (hl _ (zis (show 0<l.length by omega))));have h2:=zit (zk3 l) (nblk (l.length-1)) (by rw[zjh];exact ql6 _);unfold nblk at h2⊢;rw[qmv];omega
structure IsDel(b:List Nat)(n:Int)(o:Option (List Int)):Prop where
 sound:∀l,o=some l->(l.length:Int)=n/\zvb l=some b/\ ∀x∈l,zjg x
 compl:∀l,(∀x∈l,zjg x)->(l.length:Int)=n->zvb l=some b->o=some l
theorem IsDel.uniq{b:List Nat}{n:Int}{o p:Option (List Int)}(h:IsDel b n o)(k:IsDel b n p):o=p:=by
 cases o with
 |some l=>obtain⟨a,b,c⟩:=h.sound l rfl;exact(k.compl l c a b).symm
 |none=>
  cases p with
  |none=>rfl
  |some l=>obtain⟨a,b,c⟩:=k.sound l rfl;exact h.compl l c a b
def zep(s:zdl):Prop:=(s.2.2.1.2.2.1.length<=140737488351232/\ ∀z∈s.2.2.1.2.2.1,z<256)/\s.2.2.2.2.2.1.length<=140737488351232/\ ∀z∈s.2.2.2.2.2.1,z<256
theorem zhm{w:World}{t:Int}{s:zdl}(hf:zep s):Calls Tryz.prog 133 #[.int .i64 t,zcp s] w (zak (.bool (zck t s)) w):=by
 obtain⟨M,hM⟩:∃M,M=zck t s:=⟨_,rfl⟩;rw[<-hM];unfold zck at hM;obtain⟨n,b,p,q⟩:=s;obtain⟨⟨hf1,hf2⟩,hf3,hf4⟩:=hf;dsimp only at hM hf1 hf2 hf3 hf4;have E:∀W,(binOp .eql 133 (zcp (n,false,p,q)) (zcp (n,false,zbf,zbf))).run Tryz.prog W= .ok (.bool (decide (p=zbf)&&decide (q=zbf))) W:=fun W=>by
  rw[z3d];have:eqS (n,false,p,q) (n,false,zbf,zbf)=(decide (p=zbf)&&decide (q=zbf)):=by rw[qmj,qi9 hf2 hf4 (by simp[zbf]) (by simp[zbf])];simp
  rw[this]
 have HN:=fun(h1:zam p t false=true) (h2:zam q t false=true) (W:World)=>zfu (w:=W) (t:=t) (a:=p) (b:=q) (zmm h1) (zmm h2)
 have R1:=fun(W:World)=>zga (w:=W) (b:=p.1) (n:=p.2.1) (s:=p.2.2.1) (x:=p.2.2.2.1) (y:=p.2.2.2.2) (cn:=[]) (t:=t) (nu:=false) hf1
 have R2:=fun(W:World)=>zga (w:=W) (b:=q.1) (n:=q.2.1) (s:=q.2.2.1) (x:=q.2.2.2.1) (y:=q.2.2.2.2) (cn:=[]) (t:=t) (nu:=false) hf3
 generalize(decide (p=zbf)&&decide (q=zbf))=eq at*;generalize zjy t p q=o at*;obtain⟨p1,p2,p3,p4,p5⟩:=p;obtain⟨q1,q2,q3,q4,q5⟩:=q;dsimp only at R1 R2 hM;generalize zam (p1,p2,p3,p4,p5) t false=m1 at*;generalize zam (q1,q2,q3,q4,q5) t false=m2 at*;have E:∀W,(binOp .eql 133 (.agg #[.int .i64 n,.bool false,.bool p1,.int .i64 p2,.string (zai p3),.int .i64 p4,.int .i64 p5,.bool q1,.int .i64 q2,.string (zai q3),.int .i64 q4,.int .i64 q5]) (.agg #[.int .i64 n,.bool false,.bool false,.int .i64 0,.string ⟨#[]⟩,.int .i64 0,.int .i64 0,.bool false,.int .i64 0,.string ⟨#[]⟩,.int .i64 0,.int .i64 0])).run Tryz.prog W= .ok (.bool eq) W:=E;have R1:Hid (∀W,Calls Tryz.prog 83 #[.agg #[.bool p1,.int .i64 p2,.string (zai p3),.int .i64 p4,.int .i64 p5],.agg #[.string ⟨#[]⟩,.int .i64 t,.bool false]] W (zak (.bool m1) W)):=qrf R1;have R2:Hid (∀W,Calls Tryz.prog 83 #[.agg #[.bool q1,.int .i64 q2,.string (zai q3),.int .i64 q4,.int .i64 q5],.agg #[.string ⟨#[]⟩,.int .i64 t,.bool false]] W (zak (.bool m2) W)):=qrf R2;unfold zdb za4 at HN;dsimp only at HN;have HN:=qrf HN;show Calls Tryz.prog 133 #[.int .i64 t,.agg #[.int .i64 n,.bool b,.bool p1,.int .i64 p2,.string (zai p3),.int .i64 p4,.int .i64 p5,.bool q1,.int .i64 q2,.string (zai q3),.int .i64 q4,.int .i64 q5]] w (zak (.bool M) w);have B0:=qrv w 133 #[.int .i64 n,.bool b,.bool p1,.int .i64 p2,.string (zai p3),.int .i64 p4,.int .i64 p5,.bool q1,.int .i64 q2,.string (zai q3),.int .i64 q4,.int .i64 q5];have hb:New w (w.alloc (.cells #[.int .i64 n,.bool b,.bool p1,.int .i64 p2,.string (zai p3),.int .i64 p4,.int .i64 p5,.bool q1,.int .i64 q2,.string (zai q3),.int .i64 q4,.int .i64 q5] 133)):=(qq8 _ _).alloc (ql6 _) _;have HB0:=qrf B0;have Hb:=qrf hb;obtain⟨x0,x1,x2,x3,x4,x5,x6,x7,x8,x9,x10,x11⟩:=zbh B0;clear B0 hb hf1 hf2 hf3 hf4;by_cases hr:t<0\/3<t\/n<0\/65536<n
 ·rw[if_pos hr] at hM
  have HM:=qrf hM;clear hM E;by_cases h1:t<0;all_goals try by_cases h2:3<t
  all_goals try by_cases h3:n<0
  all_goals try(have h4:65536<n:=by omega)
  all_goals
   clear hr;go_enter Tryz.func133,Tryz.ntmps133
   go_wp2
   go_ret
   exact⟨by rw[HM.out];rfl,Hb.out⟩
 rw[if_neg hr] at hM;have h1: ¬t<0:=by omega
 have h2: ¬3<t:=by omega
 have h3: ¬n<0:=by omega
 have h4: ¬65536<n:=by omega
 clear hr;cases b with
 |false=>
  rw[if_neg (by simp)] at hM;have HM:=qrf hM;clear hM;go_enter Tryz.func133,Tryz.ntmps133
  go_wp2
  go_ret
  exact⟨by rw[HM.out];rfl,Hb.out⟩
 |true=>
  rw[if_pos rfl] at hM;have HM:=qrf hM;clear hM E;go_enter Tryz.func133,Tryz.ntmps133
  go_wp2_with fail
  refine(R1.out _).mono ?_;rintro e w1 ⟨rfl,b1⟩;have B0:=(HB0.out.alloc _).below b1 (by simp;omega);have BC:=(qrv _ _ _).below b1 (by simp);have hl:=qr0 (qr0 Hb.out ((qq8 _ _).alloc (ql6 _) _)) b1;simp only[qrq] at BC;clear x0 x1 x2 x3 x4 x5 x6 x7 x8 x9 x10 x11 HB0 Hb b1;obtain⟨x0,x1,x2,x3,x4,x5,x6,x7,x8,x9,x10,x11⟩:=zbh B0;obtain⟨y0,y1,y2⟩:=zar BC;cases m1 with
  |false=>
   go_wp2_with fail
   go_ret
   exact⟨by rw[HM.out];rfl,hl⟩
  |true=>
   go_wp2_with fail
   refine(R2.out _).mono ?_;rintro e w2 ⟨rfl,b2⟩;replace B0:=B0.below b2 B0.lt;replace hl:=qr0 hl b2;clear x0 x1 x2 x3 x4 x5 x6 x7 x8 x9 x10 x11 b2 y0 y1 y2 BC;obtain⟨x0,x1,x2,x3,x4,x5,x6,x7,x8,x9,x10,x11⟩:=zbh B0;cases m2 with
   |false=>
    go_wp2_with fail
    go_ret
    exact⟨by rw[HM.out];rfl,hl⟩
   |true=>
    have C:=qrf (HN.out (by trivial) (by trivial));go_wp2_with fail
    refine(C.out _).mono ?_;rintro e w3 ⟨rfl,b3⟩;go_wp2
    go_ret
    exact⟨by rw[HM.out];rfl,qr0 hl b3⟩
end Go.Proofs.Y
namespace Go.Hm
open Go Go.RowKit
def zmn(t:Int)(s:zdl):List Nat:=plB t [s.2.2.1,s.2.2.2]
def putS(l:List Nat)(t:Int)(s:zdl):List Nat:=
 if zck t s then(if s.2.1 then l++vp s.1.toNat++[1]++vp (zmn t s).length++zmn t s else l++vp s.1.toNat++[0]) else l
theorem zlj{t:Int}{s:zdl}(h:zck t s=true):(0<=t/\t<=3)/\0<=s.1/\s.1<=65536:=by
 unfold zck at h;split at h
 ·simp at h
 ·omega
theorem zmo{t:Int}{s:zdl}(h:zck t s=true)(hh:s.2.1=true):zam s.2.2.1 t false=true/\zam s.2.2.2 t false=true/\zjy t s.2.2.1 s.2.2.2<=0:=by
 unfold zck at h;split at h
 ·simp at h
 ·simpa[hh] using h
theorem z78{t:Int}{s:zdl}(h:zck t s=true)(hh:s.2.1=true):zk9 t [s.2.2.1,s.2.2.2]=true:=by
 obtain⟨h1,h2,-⟩:=zmo h hh;have h3:=(zlj h).1;rw[plOk_iff];refine⟨⟨h3.1,h3.2,by simp⟩,fun c hc=>?_⟩;simp at hc;rcases hc with rfl|rfl
 ·exact h1
 ·exact h2
end Go.Hm
namespace Go.Proofs.Y
open Go.RowKit Go.Hm
theorem ztp{t:Int}{s:zdl}(h:zck t s=true)(hh:s.2.1=true):(zmn t s).length<=131112:=by
 obtain⟨h1,h2,-⟩:=zmo h hh;have a:=zx3 h1;have b:=zx3 h2;have ta:s.2.2.1.2.2.1.length<=65536:=zji h1;have tb:s.2.2.2.2.2.1.length<=65536:=zji h2;unfold zmn plB;split
 ·rw[zbe];simp
 ·simp only[qpe,qpv,qmg,qmv]
  omega
def statData(s:zdl):Prop:=zat s.2.2.1/\zat s.2.2.2
theorem statData.fine{s:zdl}(h:statData s):zep s:=⟨h.1.1,h.2.1⟩
theorem z79{w:World}{A:Option Addr}{n c:Nat}{l:List Nat}{t:Int}{s:zdl}(h:Reads w w.heap.size 1 A n (zah .u8 l))(hn:n<=100000000)(hs:statData s):
 Calls Tryz.prog 113 #[.slice A n c,.int .i64 t,zcp s] w (zcb (putS l t s) w):=by
 obtain rfl:n=l.length:=h.len;have HR:=qrf h;have SR:=fun(W:World)=>zhm (w:=W) (t:=t) hs.fine
 have hrn:=fun(e:zck t s=true)=>zlj e
 have PE:=fun(e:zck t s=true) (eh:s.2.1=true) (W:World)=>zld (t:=t) (c:=2) (qsh W 75 (za4 s.2.2.1++za4 s.2.2.2).toArray 2 5 (recs za4 [s.2.2.1,s.2.2.2]) (by simp[recs]) (by simp[recs,za4])) (fun y hy=>by simp at hy;rcases hy with rfl|rfl;exact hs.1;exact hs.2) (by omega)
 have pe2:=fun(e:zck t s=true) (eh:s.2.1=true)=>(show plO t [s.2.2.1,s.2.2.2]=some (zmn t s) by unfold plO zmn;rw[if_pos (z78 e eh)])
 have hel:=fun(e:zck t s=true) (eh:s.2.1=true)=>ztp e eh
 obtain⟨M,hM⟩:∃M,M=putS l t s:=⟨_,rfl⟩;rw[<-hM];unfold putS at hM;clear hs h;generalize zck t s=R at*;generalize zmn t s=E at*;obtain⟨nn,b,⟨p1,p2,p3,p4,p5⟩,⟨q1,q2,q3,q4,q5⟩⟩:=s;dsimp only at hrn PE pe2 hel hM;have SR:Hid (∀W,Calls Tryz.prog 133 #[.int .i64 t,.agg #[.int .i64 nn,.bool b,.bool p1,.int .i64 p2,.string (zai p3),.int .i64 p4,.int .i64 p5,.bool q1,.int .i64 q2,.string (zai q3),.int .i64 q4,.int .i64 q5]] W (zak (.bool R) W)):=qrf SR;show Calls Tryz.prog 113 #[.slice A l.length c,.int .i64 t,.agg #[.int .i64 nn,.bool b,.bool p1,.int .i64 p2,.string (zai p3),.int .i64 p4,.int .i64 p5,.bool q1,.int .i64 q2,.string (zai q3),.int .i64 q4,.int .i64 q5]] w (zcb M w);have B0:=qrv w 133 #[.int .i64 nn,.bool b,.bool p1,.int .i64 p2,.string (zai p3),.int .i64 p4,.int .i64 p5,.bool q1,.int .i64 q2,.string (zai q3),.int .i64 q4,.int .i64 q5];have hb:New w (w.alloc (.cells #[.int .i64 nn,.bool b,.bool p1,.int .i64 p2,.string (zai p3),.int .i64 p4,.int .i64 p5,.bool q1,.int .i64 q2,.string (zai q3),.int .i64 q4,.int .i64 q5] 133)):=(qq8 _ _).alloc (ql6 _) _;obtain⟨x0,x1,x2,x3,x4,x5,x6,x7,x8,x9,x10,x11⟩:=zbh B0;have HPE:=qrf PE;have Hpe2:=qrf pe2;have Hhel:=qrf hel;clear PE pe2 hel;cases R with
 |false=>
  rw[if_neg (by simp)] at hM;have HM:=qrf hM;clear hM hrn HPE Hpe2 Hhel;go_enter Tryz.func113,Tryz.ntmps113
  go_wp2_with fail
  refine(SR.out _).mono ?_;rintro e w1 ⟨rfl,b1⟩;have b01:=qr0 hb b1;have CL:=qrf (zhk (c:=c) (qsg HR.out b01) (by omega));clear b1 hb B0 x0 x1 x2 x3 x4 x5 x6 x7 x8 x9 x10 x11;go_wp2_with fail
  refine CL.out.mono ?_;rintro e w2 ⟨A2,n2,c2,rfl,k2,b2⟩;go_wp2_with fail
  go_ret
  rw[HM.out];exact⟨_,_,_,rfl,k2.base_le b01.size,qr0 b01 b2⟩
 |true=>
  rw[if_pos rfl] at hM;obtain⟨-,⟨n0,n1⟩⟩:=hrn rfl;clear hrn;obtain⟨N,rfl⟩:=qn1 n0;rw[qmt] at hM;have hw:IntKind.u64.wrap (N:Int)=(N:Int):=by rw[qrj];omega
  have V:=zas (n:=N) (by omega);cases b with
  |false=>
   rw[if_neg (by simp)] at hM;have HM:=qrf hM;clear hM HPE Hpe2 Hhel;go_enter Tryz.func113,Tryz.ntmps113
   go_wp2_with fail
   refine(SR.out _).mono ?_;rintro e w1 ⟨rfl,b1⟩;have b01:=qr0 hb b1;have B1:=B0.below b1 B0.lt;clear b1 hb B0 x0 x1 x2 x3 x4 x5 x6 x7 x8 x9 x10 x11;obtain⟨x0,x1,x2,x3,x4,x5,x6,x7,x8,x9,x10,x11⟩:=zbh B1;have P:=qrf (zc9 A l.length c l N w1 (qsg HR.out b01) (by omega) (by omega));go_wp2_with fail
   refine P.out.mono ?_;rintro e w2 ⟨A2,n2,c2,rfl,k2,b2⟩;have hq2:n2<=100000010:=by have:=k2.len;rw[zaa,qmv] at this;omega
   have b02:=qr0 b01 b2;have hz2:=b2.size;have B2:=B1.below b2 B1.lt;clear P b2 B1 x0 x1 x2 x3 x4 x5 x6 x7 x8 x9 x10 x11;obtain⟨x0,x1,x2,x3,x4,x5,x6,x7,x8,x9,x10,x11⟩:=zbh B2;have hz1:=b01.size
   go_wp2_with (refine zbr elB rfl (.tmp 24) (.tmp 25) rfl (W:=w) (B:=w.heap.size) (k2.base_le hz1) rfl rfl 0 rfl b02 (ql6 _) (by omega) (by omega) (by simp only[maxLen];omega) ?_
                intro A5 c5 w5 _ _ o5 _ b5 _ _)
   go_ret
   rw[HM.out];exact⟨_,_,_,rfl,o5,b5⟩
  |true=>
   rw[if_pos rfl] at hM;have PE:=HPE.out rfl rfl;rw[Hpe2.out rfl rfl] at PE;have hel:=Hhel.out rfl rfl;have PE:Hid (∀W:World,Calls Tryz.prog 134 #[.int .i64 t,.slice (some ⟨W.heap.size,0,none⟩) 2 2] (W.alloc (.cells #[.bool p1,.int .i64 p2,.string (zai p3),.int .i64 p4,.int .i64 p5,.bool q1,.int .i64 q2,.string (zai q3),.int .i64 q4,.int .i64 q5] 75)) (OptB (some E) (W.alloc (.cells #[.bool p1,.int .i64 p2,.string (zai p3),.int .i64 p4,.int .i64 p5,.bool q1,.int .i64 q2,.string (zai q3),.int .i64 q4,.int .i64 q5] 75)))):=qrf PE;have HM:=qrf hM;clear hM HPE Hpe2 Hhel;have V2:=zas (n:=E.length) (by omega);have P2:=qrf (fun(W:World)=>zc9 none 0 0 [] E.length W qrs (by omega) (by omega));have hw2:IntKind.u64.wrap (E.length:Int)=(E.length:Int):=by rw[qrj];omega
   go_enter Tryz.func113,Tryz.ntmps113
   go_wp2_with fail
   refine(SR.out _).mono ?_;rintro e w1 ⟨rfl,b1⟩;have b01:=qr0 hb b1;have B1:=B0.below b1 B0.lt;clear b1 hb B0 x0 x1 x2 x3 x4 x5 x6 x7 x8 x9 x10 x11;obtain⟨x0,x1,x2,x3,x4,x5,x6,x7,x8,x9,x10,x11⟩:=zbh B1;have P:=qrf (zc9 A l.length c l N w1 (qsg HR.out b01) (by omega) (by omega));go_wp2_with fail
   refine P.out.mono ?_;rintro e w2 ⟨A2,n2,c2,rfl,k2,b2⟩;have hq2:n2<=100000010:=by have:=k2.len;rw[zaa,qmv] at this;omega
   have b02:=qr0 b01 b2;have hz2:=b2.size;have hz1:=b01.size;have B2:=B1.below b2 B1.lt;have o2:=k2.base_le hz1;clear P b2 B1 x0 x1 x2 x3 x4 x5 x6 x7 x8 x9 x10 x11 k2;obtain⟨x0,x1,x2,x3,x4,x5,x6,x7,x8,x9,x10,x11⟩:=zbh B2;go_wp2_with fail
   refine(PE.out _).mono ?_;rintro e w3 ⟨A3,n3,c3,rfl,k3,b3⟩;have ha:New w2 (w2.alloc (.cells #[.bool p1,.int .i64 p2,.string (zai p3),.int .i64 p4,.int .i64 p5,.bool q1,.int .i64 q2,.string (zai q3),.int .i64 q4,.int .i64 q5] 75)):=(qq8 _ _).alloc (ql6 _) _;have b23:=qr0 ha b3;have hap:=zh6 k3 (o2.later ha);have o3:=o2.later b23;have b03:=qr0 b02 b23;have hz3:=b23.size;have hn3:n3<=131112:=by have l3:=k3.len;rw[zaa] at l3;omega
   have HNE:Hid (n3=E.length):=qrf (by have l3:=k3.len;rwa[zaa] at l3);have P2:Hid (∀W,Calls Tryz.prog 111 #[.slice none 0 0,.int .u64 (n3:Int)] W (zcb ([]++vp E.length) W)):=qrf (by rw[HNE.out];exact P2.out);have hw2:IntKind.u64.wrap (n3:Int)=(n3:Int):=by rw[qrj];omega
   clear ha b3 b23 o2 b02 B2 x0 x1 x2 x3 x4 x5 x6 x7 x8 x9 x10 x11
   go_wp2_with (refine zbr elB rfl (.tmp 37) (.tmp 38) rfl (W:=w) (B:=w.heap.size) o3 rfl rfl 1 rfl b03 (ql6 _) (by omega) (by omega) (by simp only[maxLen];omega) ?_
                intro A5 c5 w5 _ _ o5 g5 b5 _ d5)
   have hap5:=zlg hap d5 k3;have k5:=k3.kept g5 hap;have hz5:=b5.size;refine(P2.out _).mono ?_;rintro e w6 ⟨A6,n6,c6,rfl,k6,b6⟩;rw[qmx] at k6;have hq6:n6<=10:=by have:=k6.len;rw[zaa] at this;omega
   have o6:=o5.later b6;have k56:=k5.later b6;have b06:=qr0 b5 b6;have hz6:=b06.size;clear k3 k5 o3 b03 o5 b5 b6 hap g5 d5;go_wp2_with (first
    |(refine zal elB rfl (.tmp 40) (.tmp 44) rfl (W:=w) (B:=w.heap.size) o6 k6.reads rfl rfl b06 (ql6 _) (by omega) (by omega) (by simp only[maxLen];omega) ?_
      intro A7 c7 w7 _ _ o7 g7 b7 _;have k7:=k56.kept g7 hap5;have hz7:=b7.size)
    |(refine zal elB rfl (.tmp 46) (.tmp 47) rfl (W:=w) (B:=w.heap.size) o7 k7.reads rfl rfl b7 (ql6 _) (by omega) (by omega) (by simp only[maxLen];omega) ?_
      intro A8 c8 w8 _ _ o8 _ b8 _))
   go_ret
   rw[HM.out];exact⟨_,_,_,rfl,o8,b8⟩
end Go.Proofs.Y
namespace Go.Hm
open Go Go.RowKit
abbrev zbc:=Int × Int × zdl
def zhn(p:zbc):List Value:= .int .i64 p.1:: .int .i64 p.2.1::zcj p.2.2
abbrev za9:=Int × List (List zbc)
structure FootS where
 cols:List zbi
 rows:Int
 groups:List za9
def zij(t:Int)(nu:Bool)(p:zbc)(most:Int):Bool:=
 if p.2.1<1\/most<p.2.1\/p.1<1\/268435456<p.1 then false
 else zck t p.2.2&&(decide (p.2.2.1<=p.2.1)&&((p.2.2.2.1==decide (p.2.2.1<p.2.1))&&(nu||decide (p.2.2.1=0))))
def zfb(t:Int)(nu:Bool):List zbc->Int->Int->Int × Bool
 | [],rows,size=>(size,decide (rows=0))
 |p::l,rows,size=>if zij t nu p rows then zfb t nu l (rows-p.2.1) (size+p.1) else(0,false)
def zcz(l:List zbc):Int:=(l.map (·.1)).sum
def zmq(l:List zbc):Int:=(l.map (·.2.1)).sum
def zes(t:Int)(nu:Bool)(l:List zbc)(rows:Int):Prop:=(∀p∈l,zij t nu p 65536=true)/\zmq l=rows
theorem zkc(p:zbc)(l:List zbc):zcz (p::l)=p.1+zcz l:=by simp[zcz]
theorem zho(p:zbc)(l:List zbc):zmq (p::l)=p.2.1+zmq l:=by simp[zmq]
theorem pageB_most{t:Int}{nu:Bool}{p:zbc}{m:Int}:zij t nu p m=true↔(1<=p.2.1/\p.2.1<=m/\1<=p.1/\p.1<=268435456)/\(zck t p.2.2&&(decide (p.2.2.1<=p.2.1)&&((p.2.2.2.1==decide (p.2.2.1<p.2.1))&&(nu||decide (p.2.2.1=0)))))=true:=by
 unfold zij;split
 ·rename_i h
  constructor
  ·intro e;cases e
  ·rintro⟨e,_⟩;omega
 ·rename_i h
  constructor
  ·intro e;exact⟨by omega,e⟩
  ·exact fun e=>e.2
theorem zr0{t:Int}{nu:Bool}{p:zbc}{m k:Int}(h:zij t nu p m=true)(hk:p.2.1<=k):zij t nu p k=true:=by obtain⟨h1,h2⟩:=pageB_most.1 h;exact pageB_most.2 ⟨by omega,h2⟩
theorem zfv{t:Int}{nu:Bool}:∀{l:List zbc},(∀p∈l,zij t nu p 65536=true)->0<=zmq l/\(l.length:Int)<=zmq l/\0<=zcz l/\zcz l<=l.length*268435456
 | [],_=>by simp[zmq,zcz]
 |p::l,h=>by
  have h1:=(pageB_most.1 (h p (by simp))).1;have:=zfv (l:=l) fun q hq=>h q (by simp[hq])
  rw[zho,zkc,qm9];omega
theorem zr1{t:Int}{nu:Bool}:∀(l:List zbc) (rows size:Int),rows<=65536->((zfb t nu l rows size).2=true↔zes t nu l rows)/\(zes t nu l rows->(zfb t nu l rows size).1=size+zcz l)
 | [],rows,size,_=>by
   simp[zfb,zes,zmq,zcz];omega
 |p::l,rows,size,hr=>by
  unfold zfb;by_cases hp:zij t nu p rows=true
  ·rw[if_pos hp]
   have h1:=(pageB_most.1 hp).1;have ih:=zr1 (t:=t) (nu:=nu) l (rows-p.2.1) (size+p.1) (by omega);have hiff:zes t nu (p::l) rows↔zes t nu l (rows-p.2.1):=by
    unfold zes;rw[zho];constructor
    ·rintro⟨a,b⟩
     exact⟨fun q hq=>a q (by simp[hq]),by omega⟩
    ·rintro⟨a,b⟩
     refine⟨fun q hq=>?_,by omega⟩;rcases qnu.1 hq with rfl|hq
     ·exact zr0 hp (by omega)
     ·exact a q hq
   refine⟨ih.1.trans hiff.symm,fun hc=>?_⟩;rw[ih.2 (hiff.1 hc),zkc];omega
  ·rw[if_neg hp]
   have hno: ¬zes t nu (p::l) rows:=by
    rintro⟨a,b⟩;have h1:=a p (by simp);have h2:=zfv (l:=l) fun q hq=>a q (by simp[hq])
    rw[zho] at b;exact hp (zr0 h1 (by omega))
   exact⟨⟨fun h=>by simp at h,fun h=>absurd h hno⟩,fun h=>absurd h hno⟩
def zcq(g:za9):Int:=(g.2.map zcz).sum
def GroupOk(cols:List zbi)(g:za9):Prop:=
 1<=g.1/\g.2.length=cols.length/\ ∀i,i<cols.length->zes (cols.getD i ([],0,false)).2.1 (cols.getD i ([],0,false)).2.2 (g.2.getD i []) g.1
def zb0(F:FootS):Prop:=
 zpv F.cols/\(∀g∈F.groups,GroupOk F.cols g)/\(F.groups.map (·.1)).sum=F.rows/\F.rows<=65536/\(F.groups.map zcq).sum<=1073741824
def zf4(t:Int)(p:zbc):List Nat:=vp p.1.toNat++vp p.2.1.toNat++Go.Hm.putS [] t p.2.2
def zgz(t:Int)(l:List zbc):List Nat:=vp l.length++l.flatMap (zf4 t)
def zcl:List zbi->List (List zbc)->List Nat
 |c::cs,l::ls=>zgz c.2.1 l++zcl cs ls
 |_,_=>[]
def zde(cols:List zbi)(g:za9):List Nat:=vp g.1.toNat++zcl cols g.2
def ze8(F:FootS):List Nat:=putC [] F.cols++vp F.rows.toNat++vp F.groups.length++F.groups.flatMap (zde F.cols)
end Go.Hm
