/- Merged. -/
import Derived.Test.YtbahbnbpmfgimaaGreatDoorBun23
import Derived.Test.YtbahbnbpmfgimaaGreatDoorBun38
set_option maxHeartbeats 8000000
namespace Go.Proofs.Y
open Go.RowKit Go.Hm
def qbi(x:Int):zab:=(false,x,[],0,0)
theorem ztm{t e:Int}(h:fitsV t e=true):(0<=e/\e<=4)/\0<=t/\t<=3:=by unfold fitsV at h;rw[decide_eq_true_eq] at h;omega
def zh0(l:List zab):List Nat:=l.map fun c=>zig c.2.1
def ziv(l:List zab):List Int:=l.map fun c=>c.2.1
def zh8(l:List zab):List (List Nat):=l.map fun c=>c.2.2.1
def xsV(l:List zab):List Int:=l.map fun c=>c.2.2.2.1
def ysV(l:List zab):List Int:=l.map fun c=>c.2.2.2.2
def zqm(a:Int):List Int->List Int
 | []=>[]
 |x::l=>(x-a)::zqm x l
theorem ztn:∀(l:List Int) (a:Int),(zqm a l).length=l.length
 | [],_=>rfl
 |x::l,a=>by rw[zqm,qnu,qnu,ztn l]
theorem zto{l:List Int}:∀{a:Int},(-1048576<=a/\a<=1048576)->(∀x∈l,-1048576<=x/\x<=1048576)-> ∀d∈zqm a l,-2097152<=d/\d<=2097152:=by
 induction l with
 |nil=>intro a _ _ d hd;simp[zqm] at hd
 |cons x l ih=>
  intro a ha h d hd;have hx:=h x (by simp);rw[zqm] at hd;rcases qof.1 hd with rfl|hd
  ·omega
  ·exact ih hx (fun y hy=>h y (by simp[hy])) d hd
def encPts(l:List zab):Option (List Nat):=
 match zu6 (zqm 0 (xsV l)),zu6 (zqm 0 (ysV l)) with
 |some a,some b=>some (vp a.length++a++b)
 |_,_=>none
theorem zvt:∀(P:List (Int × Int)) (h:Int × Int),(∀p∈P,inBox p.1 p.2=true)->zgd h P=some ((zqm h.1 (P.map (·.1))).zip (zqm h.2 (P.map (·.2))))
 | [],_,_=>rfl
 |p::P,h,hP=>by
  rw[zgd,if_pos (hP p (by simp)),zvt P p (fun q hq=>hP q (by simp[hq]))];rfl
def zfp(t e:Int)(l:List zab):Option (List Nat):=
 if e=0 then plO t l else if e=1 then zl3 t l else if zk4 t l=true then
  (if e=2 then some (z0v (zh0 l)) else if e=3 then(if t=3 then encPts l else zu6 (ziv l)) else qfs (zh8 l)) else none
theorem qd3{t:Int}{l:List zab}{b:List Nat}(h:zl3 t l=some b):zk4 t l=true:=by
 unfold zl3 at h;split at h
 ·cases h
 ·rename_i V hV
  split at h
  ·rename_i hl
   obtain⟨⟨h0,h1,-⟩,h2⟩:=plOk_iff.1 (plO_iff.1 hV).1;exact plOk_iff.2 ⟨⟨h0,h1,hl⟩,fun c hc=>h2 c ((zs7 l c).2 hc)⟩
  ·cases h
theorem z8r{t e:Int}{l:List zab}{b:List Nat}(h:zfp t e l=some b):zk4 t l=true:=by
 unfold zfp at h;split at h
 ·exact(plO_iff.1 h).1
 ·split at h
  ·exact qd3 h
  ·split at h
   ·assumption
   ·cases h
structure IsVal(t e:Int)(b:List Nat)(n:Int)(o:Option (List zab)):Prop where
 sound:∀l,o=some l->(l.length:Int)=n/\zfp t e l=some b/\ ∀c∈l,zaq c
 compl:∀l,(∀c∈l,zaq c)->(l.length:Int)=n->zfp t e l=some b->o=some l
theorem IsVal.uniq{t e:Int}{b:List Nat}{n:Int}{o p:Option (List zab)}(h:IsVal t e b n o)(k:IsVal t e b n p):o=p:=by
 cases o with
 |some l=>obtain⟨a,b,c⟩:=h.sound l rfl;exact(k.compl l c a b).symm
 |none=>
  cases p with
  |none=>rfl
  |some l=>obtain⟨a,b,c⟩:=k.sound l rfl;exact h.compl l c a b
theorem zpe{l:List zab}(h:∀c∈l,zaq c):∀x∈zh0 l,x<=18446744073709551615:=fun x hx=>by obtain⟨c,hc,rfl⟩:=qmn.1 hx;have:=zou (x:=c.2.1) (h c hc).2;omega
theorem qj4{l:List zab}(h:∀c∈l,zaf c 3 false=true):(∀x∈zqm 0 (xsV l),zja x)/\ ∀y∈zqm 0 (ysV l),zja y:=by have a:=zto (l:=xsV l) (a:=0) (by omega) (fun x hx=>by obtain⟨c,hc,rfl⟩:=qmn.1 hx;exact(zox (h c hc)).1);have b:=zto (l:=ysV l) (a:=0) (by omega) (fun x hx=>by obtain⟨c,hc,rfl⟩:=qmn.1 hx;exact(zox (h c hc)).2);exact⟨fun x hx=>by have:=a x hx;unfold zja;omega,fun x hx=>by have:=b x hx;unfold zja;omega⟩
def zdu(t:Int)(l:List zab):Nat->Int × Nat
 |0=>(-1,0)
 |k+1=>match(if fitsV t (k:Int)=true then zfp t (k:Int) l else none) with
  |some b=>if(zdu t l k).1<0\/b.length<(zdu t l k).2 then((k:Int),b.length) else zdu t l k
  |none=>zdu t l k
def bestV(t:Int)(l:List zab):Int:=(zdu t l 5).1
theorem ztp(t:Int)(l:List zab):∀k,(zdu t l k).1= -1/\(zdu t l k).2=0\/(0<=(zdu t l k).1/\(zdu t l k).1<(k:Int)/\fitsV t (zdu t l k).1=true/\ ∃b,zfp t (zdu t l k).1 l=some b/\b.length=(zdu t l k).2)
 |0=> .inl ⟨rfl,rfl⟩
 |k+1=>by
  have ih:(zdu t l k).1= -1/\(zdu t l k).2=0\/(0<=(zdu t l k).1/\(zdu t l k).1<((k+1:Nat):Int)/\fitsV t (zdu t l k).1=true/\ ∃b,zfp t (zdu t l k).1 l=some b/\b.length=(zdu t l k).2):=by
   rcases ztp t l k with h|⟨h1,h2,h3⟩
   ·exact .inl h
   ·exact .inr ⟨h1,by omega,h3⟩
  rw[zdu];split
  ·rename_i b hb
   split at hb
   ·rename_i hf
    split
    ·exact .inr ⟨by dsimp only;omega,by dsimp only;omega,hf,b,hb,rfl⟩
    ·exact ih
   ·cases hb
  ·exact ih
theorem zjh(t:Int)(l:List zab){k:Nat}(h:0<=(zdu t l k).1):0<=(zdu t l (k+1)).1:=by
 rw[zdu];split
 ·split
  ·dsimp only;omega
  ·exact h
 ·exact h
theorem zvu{t:Int}{l:List zab}(h:zk4 t l=true):fitsV t (bestV t l)=true/\ ∃b,zfp t (bestV t l) l=some b:=by
 obtain⟨⟨h0,h1,-⟩,-⟩:=plOk_iff.1 h;have e1:0<=(zdu t l 1).1:=by
  have hv:zfp t ((0:Nat):Int) l=some (plB t l):=by unfold zfp;rw[if_pos (show((0:Nat):Int)=0 from rfl)];exact plO_iff.2 ⟨h,rfl⟩
  have hf:fitsV t ((0:Nat):Int)=true:=by unfold fitsV;rw[decide_eq_true_eq];omega
  rw[zdu,if_pos hf,hv];dsimp only;rw[if_pos (.inl (by rw[zdu];omega))];exact Int.le_refl _
 have e5:=zjh t l (zjh t l (zjh t l (zjh t l e1)));rcases ztp t l 5 with h|⟨_,_,h3,b,h4,_⟩
 ·exact absurd e5 (by rw[h.1];omega)
 ·exact⟨h3,b,h4⟩
end Go.Proofs.Y
namespace Go.Hm
open Go Go.RowKit
theorem Own.str0{w:World}{base:Nat}{e:TypeId}{g n c i:Nat}{l:List (List Nat)}(h:Own w base e (.slice (some ⟨g,0,none⟩) n c) (zq8 l))(hi:i<n):
 base<=g/\g<w.heap.size/\w.cell? ⟨g,i,none⟩=some (.string (zae (l.getD i [])))/\w.frozen? ⟨g,i,none⟩=false/\
  ∀y:List Nat,Own (w.setCell ⟨g,i,none⟩ (.string (zae y))) base e (.slice (some ⟨g,0,none⟩) n c) (zq8 (l.set i y)):=by
 have hn:=h.len;rw[zob] at hn;obtain⟨u,h3,h1,h2,h4,h5,h6⟩:=h.at0 hi;rw[z5s l i (by omega)] at h3;injection h3 with h3;subst h3;refine⟨h1,h2,h4,h5,fun y=>?_⟩;have e:zq8 (l.set i y)=(zq8 l).set i (.string (zae y)):=by simp[zq8]
 rw[e];exact h6 _
theorem z9m{P:List (List Nat)}{n k:Nat}(q:List Nat)(hP:P.length=k)(hk:k<n):(P++List.replicate (n-k) []).set k q=(P++[q])++List.replicate (n-(k+1)) []:=by rw[qor _ _ (by omega),hP,qos,show n-k=(n-(k+1))+1 by omega,qot,qou,qm5];rfl
end Go.Hm
namespace Go.Proofs.Y
open Go.RowKit Go.Hm
def OptX(o:Option (List Nat))(w:World)(e:Ending)(w':World):Prop:=
 match o with
 |none=>(∃v,e= .returned (.tuple #[v,.bool false]))/\New w w'
 |some l=>∃A n c,e= .returned (.tuple #[.slice A n c,.bool true])/\Go.Hm.Own w' w.heap.size 5 (.slice A n c) (zan .u8 l)/\New w w'
theorem OptB.x{o:Option (List Nat)}{w w':World}{e:Ending}(h:OptB o w e w'):OptX o w e w':=by
 cases o with
 |none=>exact⟨⟨_,h.1⟩,h.2⟩
 |some l=>exact h
theorem OptX.later{o:Option (List Nat)}{w w1 w':World}{e:Ending}(h:OptX o w1 e w')(b:New w w1):OptX o w e w':=by
 cases o with
 |none=>exact⟨h.1,New.trans b h.2⟩
 |some l=>
  obtain⟨A,n,c,h1,h2,h3⟩:=h;exact⟨A,n,c,h1,h2.base_le b.size,New.trans b h3⟩
theorem zjl{w:World}{t:Int}{A:Option Addr}{n c:Nat}{L:List zab}(h:Reads w w.heap.size 5 A n (recs za0 L))(hL:∀y∈L,zaq y)(hn:n<=4611686018427387903):
 Calls Tryz.prog 176 #[.int .i64 t,.slice A n c] w (zal (.bool (zk4 t L)) w):=by
 have P:=Hz (zk8 (t:=t) (c:=c) h hL hn);have e:(plO t L).isSome=zk4 t L:=by unfold plO;cases zk4 t L<;> rfl
 rw[<-e];clear h hL e;generalize plO t L=O at*;go_enter Tryz.func176,Tryz.ntmps176
 go_wp2_with fail
 refine P.out.mono ?_;intro e w1 h1;cases O with
 |none=>
  obtain⟨rfl,b1⟩:=h1;go_wp2
  go_ret
  exact⟨rfl,b1⟩
 |some l=>
  obtain⟨A1,n1,c1,rfl,-,b1⟩:=h1;go_wp2
  go_ret
  exact⟨rfl,b1⟩
set_option maxRecDepth 100000 in
theorem zqz{w:World}{t:Int}{A:Option Addr}{n c:Nat}{L:List zab}(h:Reads w w.heap.size 5 A n (recs za0 L))(hL:∀y∈L,zaq y)(hn:n<=4611686018):
 Calls Tryz.prog 157 #[.int .i64 t,.slice A n c] w (OptX (zfp t 2 L) w):=by
 obtain rfl:=h.lenCell;have RI:=Hz (zjl (t:=t) (c:=c) h hL (by omega));have hv:zfp t 2 L=if zk4 t L=true then some (z0v (zh0 L)) else none:=by unfold zfp;simp
 have hlen:zk4 t L=true->L.length<=65536:=fun e=>(plOk_iff.1 e).1.2.2
 obtain⟨X,hX⟩:∃X,X=zfp t 2 L:=⟨_,rfl⟩;rw[<-hX];have HX:=Hz (hX.trans hv);have HR:=Hz h;have HL:=Hz hL;have HW:=Hz (zpe hL);clear hv hX h hL;generalize zk4 t L=O at*;go_enter Tryz.func157,Tryz.ntmps157
 go_wp2_with fail
 refine RI.out.mono ?_;rintro e W0 ⟨rfl,b0⟩;clear RI;cases O with
 |false=>
  have hx:X=none:=by rw[HX.out];rfl
  subst hx;go_wp2
  go_ret2
  exact⟨⟨_,rfl⟩,b0⟩
 |true=>
  have hx:=HX.out;rw[if_pos rfl] at hx;replace HX:=Hz hx;clear hx;have hl6:=hlen rfl;clear hlen
  go_wp2_with (refine zca elW rfl (.tmp 14) (.tmp 14) rfl (W:=W0) (B:=W0.heap.size) L.length L.length rfl rfl rfl rfl (qmt _) (Below.refl _ _) (qmt _) rfl (by omega) (by simp only[maxLen];omega) ?_
               intro w1 o1 _ b1 s1)
  go_loopw [18] (fun i wr=>∃k:Nat,k<=L.length/\i= .int .i64 (k:Int)/\Go.Hm.Own wr W0.heap.size 138 (.slice (some ⟨W0.heap.size,0,none⟩) L.length L.length) (zan .u64 (zh0 (L.take k)++List.replicate (L.length-k) 0))/\New W0 wr) (fun i _=>L.length-(intOf i).toNat)
  case atStart=>exact⟨0,qmu _,rfl,by simpa[zh0,zb1,zea,zq8,zae] using o1,b1⟩
  case round=>
   clear o1 b1 s1;obtain⟨k,hk,rfl,o,b⟩:=hrel;by_cases hlt:k<L.length
   ·obtain⟨ad,rfl,_,d0,d1,d2,d3,d4⟩:=(Reads.later HR.out (New.trans b0 b)).cell5 hlt
    have hd:=HL.out _ (zd9 (false,0,[],0,0) hlt);have hst:zh0 (L.take (k+1))=zh0 (L.take k)++zh0 [L.getD k (false,0,[],0,0)]:=by rw[zad L k (false,0,[],0,0) hlt];simp[zh0]
    have hll:(zh0 (L.take k)).length=k:=by unfold zh0;rw[qpg,qmq];omega
    have i1:(k:Int)<(L.length:Int):=by omega
    generalize L.getD k (false,0,[],0,0)=x at*;obtain⟨xb,xn,xs,xx,xy⟩:=x;have hst:zh0 (L.take (k+1))=zh0 (L.take k)++[zig xn]:=hst;dsimp only at d0 d1 d2 d3 d4;have b2:New wr (wr.alloc (.cells #[.bool xb,.int .i64 xn,.string (zae xs),.int .i64 xx,.int .i64 xy] 75)):=(Below.refl _ _).alloc (qmt _) _;have B2:=Blk.new wr 75 #[.bool xb,.int .i64 xn,.string (zae xs),.int .i64 xx,.int .i64 xy];have o2:=o.later b2;have b02:=New.trans b b2;obtain⟨p0,p1,p2,p3,p4⟩:=zcs B2;obtain⟨hg0,hgl,hc,hf,hset⟩:=o2.num0 (i:=k) hlt;have hs2:=hset (zig xn);rw[zwi _ hll hlt,<-hst] at hs2;have HSet:=Hz hs2;have HB2:=Hz (fun q=>b02.setCell (p:=⟨W0.heap.size,k,none⟩) (qmt _) q);generalize(zh0 (L.take k)++List.replicate (L.length-k) 0).getD k 0=q0 at*;have ZG:=Hz (fun W=>zot xn W hd.2.1 hd.2.2);clear hst hll hset hs2 o b b2 o2 b02 B2 hd;go_wp2_with fail
    refine(ZG.out _).mono ?_;rintro e w5 ⟨rfl,rfl⟩;go_wp2_with fail
    go_roundw
    case rel=>exact⟨k+1,by omega,by go_num,HSet.out,HB2.out _⟩
    case measure=>simp[intOf];omega
   ·obtain rfl:k=L.length:=by omega
    have hS:zh0 (L.take L.length)=zh0 L:=by rw[qql]
    rw[hS,qos,qqd,qm3] at o;clear hS hlt;have b00:=New.trans b0 b;have E:=Hz (z70 (c:=L.length) o.reads (qmt _) HW.out hl6);go_wp2_with fail
    refine E.out.mono ?_;rintro e w6 ⟨A6,n6,c6,rfl,o6,b6⟩;go_wp2_with fail
    go_ret2
    rw[HX.out];exact⟨_,_,_,rfl,o6.base_le b00.size,New.trans b00 b6⟩
set_option maxRecDepth 100000 in
theorem zq0{w:World}{A:Option Addr}{n c:Nat}{L:List zab}(h:Reads w w.heap.size 5 A n (recs za0 L))(hL:∀y∈L,zaq y)(hn:n<=4611686018):
 Calls Tryz.prog 159 #[.int .i64 0,.slice A n c] w (OptX (zfp 0 3 L) w):=by
 obtain rfl:=h.lenCell;have RI:=Hz (zjl (t:=0) (c:=c) h hL (by omega));have hv:zfp 0 3 L=if zk4 0 L=true then zu6 (ziv L) else none:=by unfold zfp;simp
 obtain⟨X,hX⟩:∃X,X=zfp 0 3 L:=⟨_,rfl⟩;rw[<-hX];have HX:=Hz (hX.trans hv);have HR:=Hz h;have HL:=Hz hL;have HW:Hid (∀x∈ziv L,zja x):=Hz (fun x hx=>by obtain⟨c,hc,rfl⟩:=qmn.1 hx;exact(hL c hc).2);clear hv hX h hL;generalize zk4 0 L=O at*;go_enter Tryz.func159,Tryz.ntmps159
 go_wp2_with fail
 refine RI.out.mono ?_;rintro e W0 ⟨rfl,b0⟩;clear RI;cases O with
 |false=>
  have hx:X=none:=by rw[HX.out];rfl
  subst hx;go_wp2
  go_ret2
  exact⟨⟨_,rfl⟩,b0⟩
 |true=>
  have hx:=HX.out;rw[if_pos rfl] at hx;replace HX:=Hz hx;clear hx
  go_wp2_with (refine zca elI rfl (.tmp 20) (.tmp 20) rfl (W:=W0) (B:=W0.heap.size) L.length L.length rfl rfl rfl rfl (qmt _) (Below.refl _ _) (qmt _) rfl (by omega) (by simp only[maxLen];omega) ?_
               intro w1 o1 _ b1 s1)
  go_loopw [24] (fun i wr=>∃k:Nat,k<=L.length/\i= .int .i64 (k:Int)/\Go.Hm.Own wr W0.heap.size 3 (.slice (some ⟨W0.heap.size,0,none⟩) L.length L.length) (za7 .i64 (ziv (L.take k)++List.replicate (L.length-k) 0))/\New W0 wr) (fun i _=>L.length-(intOf i).toNat)
  case atStart=>exact⟨0,qmu _,rfl,by simpa[ziv,zb1,zea,zq8,zae] using o1,b1⟩
  case round=>
   clear o1 b1 s1;obtain⟨k,hk,rfl,o,b⟩:=hrel;by_cases hlt:k<L.length
   ·obtain⟨ad,rfl,_,d0,d1,d2,d3,d4⟩:=(Reads.later HR.out (New.trans b0 b)).cell5 hlt
    have hd:=HL.out _ (zd9 (false,0,[],0,0) hlt);have hst:ziv (L.take (k+1))=ziv (L.take k)++ziv [L.getD k (false,0,[],0,0)]:=by rw[zad L k (false,0,[],0,0) hlt];simp[ziv]
    have hll:(ziv (L.take k)).length=k:=by unfold ziv;rw[qpg,qmq];omega
    have i1:(k:Int)<(L.length:Int):=by omega
    generalize L.getD k (false,0,[],0,0)=x at*;obtain⟨xb,xn,xs,xx,xy⟩:=x;have hst:ziv (L.take (k+1))=ziv (L.take k)++[xn]:=hst;dsimp only at d0 d1 d2 d3 d4;have b2:New wr (wr.alloc (.cells #[.bool xb,.int .i64 xn,.string (zae xs),.int .i64 xx,.int .i64 xy] 75)):=(Below.refl _ _).alloc (qmt _) _;have B2:=Blk.new wr 75 #[.bool xb,.int .i64 xn,.string (zae xs),.int .i64 xx,.int .i64 xy];have o2:=o.later b2;have b02:=New.trans b b2;obtain⟨p0,p1,p2,p3,p4⟩:=zcs B2;obtain⟨hg0,hgl,hc,hf,hset⟩:=o2.int0 (i:=k) hlt;have hs2:=hset (xn);rw[zlt _ hll hlt,<-hst] at hs2;have HSet:=Hz hs2;have HB2:=Hz (fun q=>b02.setCell (p:=⟨W0.heap.size,k,none⟩) (qmt _) q);generalize(ziv (L.take k)++List.replicate (L.length-k) 0).getD k 0=q0 at*;clear hst hll hset hs2 o b b2 o2 b02 B2 hd;go_wp2_with fail
    go_roundw
    case rel=>exact⟨k+1,by omega,by go_num,HSet.out,HB2.out _⟩
    case measure=>simp[intOf];omega
   ·obtain rfl:k=L.length:=by omega
    have hS:ziv (L.take L.length)=ziv L:=by rw[qql]
    rw[hS,qos,qqd,qm3] at o;clear hS hlt;have b00:=New.trans b0 b;have E:=Hz (zi0 (c:=L.length) o.reads HW.out (by omega));go_wp2_with fail
    refine E.out.mono ?_;intro e w6 h6;have h6:=OptX.later (OptB.x h6) b00;rw[<-HX.out] at h6;cases X with
    |none=>
     obtain⟨⟨v,rfl⟩,b6⟩:=h6;go_wp2_with fail
     go_ret2
     exact⟨⟨_,rfl⟩,b6⟩
    |some d=>
     obtain⟨A6,n6,c6,rfl,o6,b6⟩:=h6;go_wp2_with fail
     go_ret2
     exact⟨_,_,_,rfl,o6,b6⟩
set_option maxRecDepth 100000 in
theorem zpv{w:World}{t:Int}{A:Option Addr}{n c:Nat}{L:List zab}(h:Reads w w.heap.size 5 A n (recs za0 L))(hL:∀y∈L,zaq y)(hn:n<=4611686018):
 Calls Tryz.prog 161 #[.int .i64 t,.slice A n c] w (OptX (zfp t 4 L) w):=by
 obtain rfl:=h.lenCell;have RI:=Hz (fun(W:World) (hW:New w W)=>zjl (t:=t) (c:=c) (Reads.later h hW) hL (by omega));have hv:zfp t 4 L=if zk4 t L=true then qfs (zh8 L) else none:=by unfold zfp;simp
 obtain⟨X,hX⟩:∃X,X=zfp t 4 L:=⟨_,rfl⟩;rw[<-hX];have HX:=Hz (hX.trans hv);have HR:=Hz h;have HL:=Hz hL;have HW:Hid (∀s∈zh8 L,(∀x∈s,x<256)/\s.length<=140737488351232):=Hz (fun x hx=>by obtain⟨c,hc,rfl⟩:=qmn.1 hx;exact⟨(hL c hc).1.2,(hL c hc).1.1⟩);clear hv hX h hL;generalize zk4 t L=O at*;have b0:New w w:=New.refl w;go_enter Tryz.func161,Tryz.ntmps161
 go_wp2_with (refine zca elS rfl (.tmp 12) (.tmp 12) rfl (W:=w) (B:=w.heap.size) L.length L.length rfl rfl rfl rfl (qmt _) (Below.refl _ _) (qmt _) rfl (by omega) (by simp only[maxLen];omega) ?_
              intro w1 o1 _ b1 s1)
 go_loopw [16] (fun i wr=>∃k:Nat,k<=L.length/\i= .int .i64 (k:Int)/\Go.Hm.Own wr w.heap.size 9 (.slice (some ⟨w.heap.size,0,none⟩) L.length L.length) (zq8 (zh8 (L.take k)++List.replicate (L.length-k) []))/\New w wr) (fun i _=>L.length-(intOf i).toNat)
 case atStart=>exact⟨0,qmu _,rfl,by simpa[zh8,zb1,zea,zq8,zae] using o1,b1⟩
 case round=>
  clear o1 b1 s1;obtain⟨k,hk,rfl,o,b⟩:=hrel;by_cases hlt:k<L.length
  ·obtain⟨ad,rfl,_,d0,d1,d2,d3,d4⟩:=(Reads.later HR.out (New.trans b0 b)).cell5 hlt
   have hd:=HL.out _ (zd9 (false,0,[],0,0) hlt);have hst:zh8 (L.take (k+1))=zh8 (L.take k)++zh8 [L.getD k (false,0,[],0,0)]:=by rw[zad L k (false,0,[],0,0) hlt];simp[zh8]
   have hll:(zh8 (L.take k)).length=k:=by unfold zh8;rw[qpg,qmq];omega
   have i1:(k:Int)<(L.length:Int):=by omega
   generalize L.getD k (false,0,[],0,0)=x at*;obtain⟨xb,xn,xs,xx,xy⟩:=x;have hst:zh8 (L.take (k+1))=zh8 (L.take k)++[xs]:=hst;dsimp only at d0 d1 d2 d3 d4;have b2:New wr (wr.alloc (.cells #[.bool xb,.int .i64 xn,.string (zae xs),.int .i64 xx,.int .i64 xy] 75)):=(Below.refl _ _).alloc (qmt _) _;have B2:=Blk.new wr 75 #[.bool xb,.int .i64 xn,.string (zae xs),.int .i64 xx,.int .i64 xy];have o2:=o.later b2;have b02:=New.trans b b2;obtain⟨p0,p1,p2,p3,p4⟩:=zcs B2;obtain⟨hg0,hgl,hc,hf,hset⟩:=o2.str0 (i:=k) hlt;have hs2:=hset (xs);rw[z9m _ hll hlt,<-hst] at hs2;have HSet:=Hz hs2;have HB2:=Hz (fun q=>b02.setCell (p:=⟨w.heap.size,k,none⟩) (qmt _) q);generalize(zh8 (L.take k)++List.replicate (L.length-k) []).getD k []=q0 at*;clear hst hll hset hs2 o b b2 o2 b02 B2 hd;go_wp2_with fail
   go_roundw
   case rel=>exact⟨k+1,by omega,by go_num,HSet.out,HB2.out _⟩
   case measure=>simp[intOf];omega
  ·obtain rfl:k=L.length:=by omega
   have hS:zh8 (L.take L.length)=zh8 L:=by rw[qql]
   rw[hS,qos,qqd,qm3] at o;clear hS hlt;have b00:=New.trans b0 b;have E:=Hz (qel (c:=L.length) o.reads (fun s hs=>(HW.out s hs).1) (fun s hs=>(HW.out s hs).2) (by omega));go_wp2_with fail
   refine E.out.mono ?_;intro e w6 h6;generalize qfs (zh8 L)=E6 at*;cases E6 with
   |none=>
    have hx:X=none:=by rw[HX.out];cases O<;> rfl
    subst hx;obtain⟨rfl,b6⟩:=h6;go_wp2_with fail
    go_ret2
    exact⟨⟨_,rfl⟩,New.trans b00 b6⟩
   |some d=>
    obtain⟨A6,n6,c6,rfl,o6,b6⟩:=h6;have b06:=New.trans b00 b6;have RW:=Hz (RI.out _ b06);have o6:=o6.base_le (b':=w.heap.size) b00.size;clear b6 E RI;go_wp2_with fail
    refine RW.out.mono ?_;rintro e w7 ⟨rfl,b7⟩;have o7:=o6.later b7;cases O with
    |false=>
     have hx:X=none:=by rw[HX.out];rfl
     subst hx;go_wp2_with fail
     go_ret2
     exact⟨⟨_,rfl⟩,New.trans b06 b7⟩
    |true=>
     have hx:X=some d:=by rw[HX.out];rfl
     subst hx;go_wp2_with fail
     go_ret2
     exact⟨_,_,_,rfl,o7,New.trans b06 b7⟩
open Go.RowKit Go.Hm
def ztz(l:List zab):List (Int × Int):=l.map fun c=>(c.2.2.2.1,c.2.2.2.2)
theorem qen(l:List zab):(ztz l).length=l.length:=by simp[ztz]
theorem qkb(l:List zab):(ztz l).map (·.1)=xsV l:=by unfold ztz xsV;rw[qoc];rfl
theorem qkc(l:List zab):(ztz l).map (·.2)=ysV l:=by unfold ztz ysV;rw[qoc];rfl
theorem z1m{l:List Int}(h:l.length<=65536):∃b,zu6 l=some b:=by unfold zu6;rw[if_neg (by omega)];split<;> exact⟨_,rfl⟩
theorem z9n{S:List (Int × Int)}{k:Nat}(h:k<S.length):((S.take (k+1)).map (·.1))=(S.take k).map (·.1)++[(S.getD k (0,0)).1]:=by rw[zad S k (0,0) h];simp
theorem z9o{S:List (Int × Int)}{k:Nat}(h:k<S.length):((S.take (k+1)).map (·.2))=(S.take k).map (·.2)++[(S.getD k (0,0)).2]:=by rw[zad S k (0,0) h];simp
set_option maxRecDepth 100000 in
theorem znf{w:World}{A:Option Addr}{n c:Nat}{L:List zab}(h:Reads w w.heap.size 5 A n (recs za0 L))(hr:∀y∈L,zaf y 3 false=true)(hn:n<=65536):
 Calls Tryz.prog 178 #[.slice A n c] w (OptX (encPts L) w):=by
 obtain rfl:=h.lenCell;have HR:=Hz h;obtain⟨S,hS⟩:∃S,S=(zqm 0 (xsV L)).zip (zqm 0 (ysV L)):=⟨_,rfl⟩;have hS1:zgd (0,0) (ztz L)=some S:=by
  rw[hS,zvt (ztz L) (0,0) (fun p hp=>by obtain⟨c,hc,rfl⟩:=qmn.1 hp;have:=zox (hr c hc);exact inBox_iff.2 (by dsimp only;omega)),qkb,qkc]
 have hxl:(zqm 0 (xsV L)).length=L.length:=by rw[ztn];simp[xsV]
 have hyl:(zqm 0 (ysV L)).length=L.length:=by rw[ztn];simp[ysV]
 have hSl:S.length=L.length:=by rw[hS,qrh];omega
 have hSx:S.map (·.1)=zqm 0 (xsV L):=by rw[hS];exact List.map_fst_zip (by omega)
 have hSy:S.map (·.2)=zqm 0 (ysV L):=by rw[hS];exact List.map_snd_zip (by omega)
 obtain⟨i1,i2⟩:=qj4 hr;obtain⟨a,ha⟩:=z1m (l:=zqm 0 (xsV L)) (by omega);obtain⟨b,hb⟩:=z1m (l:=zqm 0 (ysV L)) (by omega);have hal:=zk1 i1 ha;have hbl:=zk1 i2 hb;have HE:Hid (encPts L=some (vp a.length++a++b)):=Hz (by unfold encPts;rw[ha,hb]);rw[<-hSx] at i1 ha;rw[<-hSy] at i2 hb;have HA:=Hz (qo8 i1 ha);have HB:=Hz (qo8 i2 hb);have PS:=fun(W:World) (A:Option Addr) (c:Nat) (hR:Reads W W.heap.size 2 A L.length (zdk (ztz L)))=>show Calls Tryz.prog 194 #[.slice A L.length c] W (qf4 (some S) W) from by have:=z4k (c:=c) hR (by omega);rw[hS1] at this;exact this
 have PS:=Hz PS;have HSL:=Hz hSl;clear h hr hS hS1 hxl hyl hSx hSy i1 i2 ha hb hSl;have hb0:New w w:=New.refl w;have hz0:w.heap.size<=w.heap.size:=qmt _;go_enter Tryz.func178,Tryz.ntmps178
 go_wp2_with (refine zzd qlh rfl (.tmp 17) (.tmp 17) rfl (W:=w) (B:=w.heap.size) L.length rfl rfl rfl rfl hb0 hz0 (by omega) (by simp only[maxLen];omega) ?_
              intro w1 o1 g1 b1 hs1)
 rw[z4m] at o1;clear hb0 hz0 g1;go_loopw [21] (fun i wr=>∃k:Nat,k<=L.length/\i= .int .i64 (k:Int)/\wr.ownsRow w.heap.size 73 2 (.slice (some ⟨w.heap.size,0,none⟩) L.length L.length) L.length (zdk (ztz (L.take k)++List.replicate (L.length-k) (0,0)))/\New w wr) (fun i _=>L.length-(intOf i).toNat)
 case atStart=>exact⟨0,qmu _,rfl,by simpa[ztz] using o1,b1⟩
 case round=>
  clear o1 b1 hs1;obtain⟨k,hk,rfl,o,bw⟩:=hrel;by_cases hlt:k<L.length
  ·obtain⟨ad,rfl,_,d0,d1,d2,d3,d4⟩:=(Reads.later HR.out bw).cell5 hlt
   have hst:ztz (L.take (k+1))=ztz (L.take k)++ztz [L.getD k (false,0,[],0,0)]:=by rw[zad L k (false,0,[],0,0) hlt];simp[ztz]
   have hll:(ztz (L.take k)).length=k:=by rw[qen,qmq];omega
   have i1:(k:Int)<(L.length:Int):=by omega
   generalize L.getD k (false,0,[],0,0)=x at*;obtain⟨xb,xn,xs,xx,xy⟩:=x;have hst:ztz (L.take (k+1))=ztz (L.take k)++[(xx,xy)]:=hst;dsimp only at d0 d1 d2 d3 d4;have b2:New wr (wr.alloc (.cells #[.bool xb,.int .i64 xn,.string (zae xs),.int .i64 xx,.int .i64 xy] 75)):=(Below.refl _ _).alloc (qmt _) _;have B2:=Blk.new wr 75 #[.bool xb,.int .i64 xn,.string (zae xs),.int .i64 xx,.int .i64 xy];rw[show L.length-k=(L.length-(k+1))+1 by omega,qot] at o;have o2:=Hz (za1 o b2);have b02:=New.trans bw b2;obtain⟨p0,p1,p2,p3,p4⟩:=zcs B2;have ead:(⟨w.heap.size,0,none⟩:Addr).add (k*2)=⟨w.heap.size,k*2,none⟩:=by unfold Addr.add;split<;> simp_all
   have HST:=Hz hst;have HLL:=Hz hll;clear hst hll o bw b2 B2
   go_wp2_with (refine zwm rfl 73 (.tmp 30) (.tmp 29) rfl (new:=(xx,xy)) o2.out HLL.out hlt rfl rfl (by kernel_rfl) ?_
                intro w3 o3 g3)
   have b3:=Far.below b02 g3 (qmt _) (qmt _);have o3:w3.ownsRow w.heap.size 73 2 (.slice (some ⟨w.heap.size,0,none⟩) L.length L.length) L.length (zdk (ztz (L.take (k+1))++List.replicate (L.length-(k+1)) (0,0))):=by rw[HST.out,qm5];exact o3
   go_roundw
   case rel=>exact⟨k+1,by omega,by go_num,o3,b3⟩
   case measure=>simp[intOf];omega
  ·obtain rfl:k=L.length:=by omega
   rw[qql,qos,qqd,qm3] at o;have HRO:=Hz (Reads.of_own o);clear o hlt;obtain⟨i1,hi1,hz1,hs1,hb1⟩:=info_parts elI.hi;have mk1:=fun W=>run_make (P:=Tryz.prog) W 57 3 i1 _ elI.ht hi1 hz1 .i64 .i64 (L.length:Int) (L.length:Int) (by omega) (by omega) (by rw[hb1];omega) (by omega)
   simp only[qng,hs1] at mk1;generalize hC1:madeCells _ (L.length*1)=C1 at mk1;have HC1:=Hz hC1;clear hC1 hi1 hz1 hs1 hb1;have BA:=Blk.new wr 3 C1;have BB:=Blk.new (wr.alloc (.cells C1 3)) 3 C1;have BA2:=BA.alloc (.cells C1 3);have hba:New wr ((wr.alloc (.cells C1 3)).alloc (.cells C1 3)):=((Below.refl _ _).alloc (qmt _) _).alloc (by simp) _;simp only[World.size_alloc] at BB;go_upto_region 7 with fail
   go_cut [7,8] (fun s7 s8 wx=>∃gx gy:Nat,s7= .slice (some ⟨gx,0,none⟩) L.length L.length/\s8= .slice (some ⟨gy,0,none⟩) L.length L.length/\gx≠gy/\wr.heap.size<=gx/\wr.heap.size<=gy/\Blk wx gx 3 C1/\Blk wx gy 3 C1/\New wr wx)
   case first=>
    go_region
    all_goals
     go_wp2_with fail
     go_meet
     first
      |exact⟨wr.heap.size,wr.heap.size+1,rfl,rfl,by omega,by omega,by omega,BA2,BB,hba⟩
      |exact⟨wr.heap.size+1,wr.heap.size,rfl,rfl,by omega,by omega,by omega,BB,BA2,hba⟩
      |exact⟨wr.heap.size,wr.heap.size+1,rfl,rfl,by omega,by omega,by omega,BA2,BB,New.trans hba (New.drew _)⟩
      |exact⟨wr.heap.size+1,wr.heap.size,rfl,rfl,by omega,by omega,by omega,BB,BA2,New.trans hba (New.drew _)⟩
   case rest=>
    obtain⟨gx,gy,rfl,rfl,hxy,hgx,hgy,BX,BY,bx⟩:=hcut;have hz:=bw.size;have own0:∀g,wr.heap.size<=g->Blk wc g 3 C1->Go.Hm.Own wc w.heap.size 3 (.slice (some ⟨g,0,none⟩) L.length L.length) (za7 .i64 (List.replicate L.length 0)):=by
     intro g hg hB;have e1:(za7 .i64 (List.replicate L.length 0)).length=L.length:=by rw[zhn,qo9]
     unfold Go.Hm.Own;rw[e1];refine⟨by rw[e1,qm0],.inr ⟨g,L.length,C1,rfl,by omega,hB,qmt _,by simp only[maxLen];omega,by rw[<-HC1.out];simp[size_madeCells],?_⟩⟩;rw[<-HC1.out,qnn (by simp[size_madeCells]),zea];have:=toList_madeCells_one (.int .i64 0) (L.length*1);rw[qm0] at this⊢;exact this
    have ox:=own0 gx hgx BX;have oy:=own0 gy hgy BY;have bc:=New.trans bw bx;have RC:=Reads.later HRO.out bx;have lx:=BX.lt;have ly:=BY.lt;have hgx:w.heap.size<=gx:=by omega
    have hgy:w.heap.size<=gy:=by omega
    have PC:=Hz (PS.out wc _ L.length RC);clear own0 BX BY bw bx RC BA BB BA2 hba HC1 mk1 HRO PS hz;go_wp2_with fail
    refine PC.out.mono ?_;rintro e w4 ⟨A4,n4,c4,rfl,o4,b4⟩;obtain rfl:n4=S.length:=(Reads.of_own o4).lenP;have hSl:=HSL.out;have o4:w4.ownsRow wc.heap.size 73 2 (.slice A4 S.length c4) S.length (zdk S):=o4;have ox:=ox.later b4;have oy:=oy.later b4;have b04:=New.trans bc b4;generalize wc.heap.size=n1 at*;clear PC bc b4;go_wp2_with fail
    go_loopw [41] (fun i wr=>∃k:Nat,k<=S.length/\i= .int .i64 (k:Int)/\Go.Hm.Own wr w.heap.size 3 (.slice (some ⟨gx,0,none⟩) L.length L.length) (za7 .i64 ((S.take k).map (·.1)++List.replicate (L.length-k) 0))/\Go.Hm.Own wr w.heap.size 3 (.slice (some ⟨gy,0,none⟩) L.length L.length) (za7 .i64 ((S.take k).map (·.2)++List.replicate (L.length-k) 0))/\wr.ownsRow n1 73 2 (.slice A4 S.length c4) S.length (zdk S)/\New w wr) (fun i _=>S.length-(intOf i).toNat)
    case atStart=>exact⟨0,qmu _,rfl,by simpa using ox,by simpa using oy,o4,b04⟩
    case round=>
     clear ox oy o4 b04;obtain⟨k,hk,rfl,ox,oy,o4,bw⟩:=hrel;by_cases hlt:k<S.length
     ·obtain⟨ad,rfl,_,d0,d1⟩:=(Reads.of_own o4).pair hlt
      have ms1:=z9n hlt;have ms2:=z9o hlt;have hlx:((S.take k).map (·.1)).length=k:=by rw[qpg,qmq];omega
      have hly:((S.take k).map (·.2)).length=k:=by rw[qpg,qmq];omega
      have d2:wr.cell? ⟨(ad.add (k*2)).block,(ad.add (k*2)).off+1,none⟩=some (.int .i64 (S.getD k (0,0)).2):=by rw[<-za3] at d1;exact d1
      have i1:(k:Int)<(S.length:Int):=by omega
      have i2:(k:Int)<(L.length:Int):=by omega
      have hkL:k<L.length:=by omega
      generalize S.getD k (0,0)=sp at*;obtain⟨sx,sy⟩:=sp;dsimp only at d0 d1 d2 ms1 ms2;have b2:New wr (wr.alloc (.cells #[.int .i64 sx,.int .i64 sy] 73)):=(Below.refl _ _).alloc (qmt _) _;have B2:=Blk.new wr 73 #[.int .i64 sx,.int .i64 sy];obtain⟨p0,p1⟩:=zbz B2;have lx2:=(ox.lt gx rfl).2;have ly2:=(oy.lt gy rfl).2;obtain⟨-,-,hcx,hfx,hsx⟩:=ox.int0 hkL;obtain⟨-,-,hcy,hfy,hsy⟩:=oy.int0 hkL;have xA:=hsx sx;have yA:=hsy sy;have nxy:Value.ownBlock (.slice (some ⟨gx,0,none⟩) L.length L.length)=none\/Value.ownBlock (.slice (some ⟨gx,0,none⟩) L.length L.length)≠some gy:= .inr (by simpa[Value.ownBlock] using hxy);have nyx:Value.ownBlock (.slice (some ⟨gy,0,none⟩) L.length L.length)=none\/Value.ownBlock (.slice (some ⟨gy,0,none⟩) L.length L.length)≠some gx:= .inr (by simpa[Value.ownBlock] using fun e=>hxy e.symm);have yx:=oy.kept (zaz (g:=gx) (i:=k) (x:= .int .i64 sx)) nyx;have xy:=ox.kept (zaz (g:=gy) (i:=k) (x:= .int .i64 sy)) nxy;have yB:=(yx.int0 hkL).2.2.2.2 sy;have xB:=(xy.int0 hkL).2.2.2.2 sx;have xC:=xA.kept (zaz (g:=gy) (i:=k) (x:= .int .i64 sy)) nxy;have yC:=yA.kept (zaz (g:=gx) (i:=k) (x:= .int .i64 sx)) nyx;rw[zlt _ hlx hkL,<-ms1] at xB xC;rw[zlt _ hly hkL,<-ms2] at yB yC;have o4x:=World.ownsRow.kept o4 (zaz (g:=gx) (i:=k) (x:= .int .i64 sx)) (.inr (fun e=>by have:=(World.ownsRow.lt o4 _ e).1;omega));have o4y:=World.ownsRow.kept o4 (zaz (g:=gy) (i:=k) (x:= .int .i64 sy)) (.inr (fun e=>by have:=(World.ownsRow.lt o4 _ e).1;omega));have o4A:=World.ownsRow.kept o4x (zaz (g:=gy) (i:=k) (x:= .int .i64 sy)) (.inr (fun e=>by have:=(World.ownsRow.lt o4x _ e).1;omega));have o4B:=World.ownsRow.kept o4y (zaz (g:=gx) (i:=k) (x:= .int .i64 sx)) (.inr (fun e=>by have:=(World.ownsRow.lt o4y _ e).1;omega));have bA:=(bw.setCell (p:=⟨gx,k,none⟩) hgx (.int .i64 sx)).setCell (p:=⟨gy,k,none⟩) hgy (.int .i64 sy);have bB:=(bw.setCell (p:=⟨gy,k,none⟩) hgy (.int .i64 sy)).setCell (p:=⟨gx,k,none⟩) hgx (.int .i64 sx);have al:∀W:World,New W ((W.alloc (.cells #[.int .i64 sx,.int .i64 sy] 73)).drew):=fun W=>New.trans ((Below.refl _ _).alloc (qmt _) _) (New.drew _)
      have HA1:=Hz (qo8 (xC.later (al _)) (qo8 (yB.later (al _)) (qo8 (za1 o4A (al _)) (New.trans bA (al _)))));have HB1:=Hz (qo8 (xB.later (al _)) (qo8 (yC.later (al _)) (qo8 (za1 o4B (al _)) (New.trans bB (al _)))));have hcx':∃q,wr.cell? ⟨gx,k,none⟩=some (.int .i64 q):=⟨_,hcx⟩;have hcy':∃q,wr.cell? ⟨gy,k,none⟩=some (.int .i64 q):=⟨_,hcy⟩;clear hcx hcy;obtain⟨q1,hcx⟩:=hcx';obtain⟨q2,hcy⟩:=hcy';have hyx:gy≠gx:=fun e=>hxy e.symm
      clear al xC yB o4A bA xB yC o4B bB o4x o4y xA yA xy yx nxy nyx hsx hsy ox oy o4 bw b2 B2 ms1 ms2 hlx hly d1;go_wp2_with fail
      go_region
      all_goals
       go_wp2_with fail
       go_roundw
       case rel=>
        first
         |exact⟨k+1,by omega,by go_num,HA1.out⟩
         |exact⟨k+1,by omega,by go_num,HB1.out⟩
       case measure=>simp[intOf];omega
     ·obtain rfl:k=S.length:=by omega
      rw[qql,hSl,qos,qqd,qm3] at ox;rw[qql,hSl,qos,qqd,qm3] at oy;have EX:=Hz (zi0 (c:=L.length) ox.reads HA.out.1 (by omega));have hzw:=bw.size;clear o4 hlt;go_wp2_with fail
      refine EX.out.mono ?_;intro e w5 h5;rw[HA.out.2] at h5;obtain⟨A5,n5,c5,rfl,o5,b5⟩:=h5;obtain rfl:n5=a.length:=by have:=o5.len;rwa[zaa] at this
      have EY:=Hz (zi0 (c:=L.length) (oy.later b5).reads HB.out.1 (by omega));have b05:=New.trans bw b5;have hz5:=b05.size;clear EX ox oy b5 bw;go_wp2_with fail
      refine EY.out.mono ?_;intro e w6 h6;rw[HB.out.2] at h6;obtain⟨A6,n6,c6,rfl,o6,b6⟩:=h6;obtain rfl:n6=b.length:=by have:=o6.len;rwa[zaa] at this
      have o5:=o5.later b6;have b06:=New.trans b05 b6;have hz6:=b06.size;have hw1:IntKind.u64.wrap (a.length:Int)=(a.length:Int):=by rw[IntKind.wrap_u64];omega
      have PT:=Hz (fun W:World=>zc1 none 0 0 [] a.length W Reads.none_ (by omega) (by omega));have hvl:=zap (n:=a.length) (by omega);clear EY b6 b05;generalize hV:vp a.length=V at*;clear hV;go_wp2_with fail
      refine(PT.out _).mono ?_;rintro e w7 ⟨A7,n7,c7,rfl,o7,b7⟩;rw[qnk] at o7;obtain rfl:n7=V.length:=by have:=o7.len;rwa[zaa] at this
      have h57:=zgb (zhx o7 (o5.base_le (qmu _)));have h67:=zgb (zhx o7 (o6.base_le (qmu _)));have o5:=o5.later b7;have o6:=o6.later b7;have b07:=New.trans b06 b7;have hz7:=b07.size;have o7:=o7.base_le (b':=w.heap.size) hz6;clear PT b7 b06;go_wp2_with (first
       |(refine zam elB rfl (.tmp 71) (.tmp 72) rfl (W:=w) (B:=w.heap.size) o7 o5.reads rfl rfl b07 (qmt _) hz7 (by omega) (by simp only[maxLen];omega) ?_
         intro A8 c8 w8 _ _ o8 g8 b8 d8;have p6:=o6.kept g8 h67;have hz8:=b8.size)
       |(refine zam elB rfl (.tmp 74) (.tmp 75) rfl (W:=w) (B:=w.heap.size) o8 p6.reads rfl rfl b8 (qmt _) hz8 (by omega) (by simp only[maxLen];omega) ?_
         intro A9 c9 w9 _ _ o9 _ b9 _))
      go_ret2
      rw[HE.out];exact⟨_,_,_,rfl,o9,b9⟩
end Go.Proofs.Y
