import Derived.Test.YtbahbnbpmfgimaaGreatDoorBun5
set_option maxHeartbeats 4000000
set_option maxRecDepth 100000
namespace Go.Proofs.Y
open Go.RowKit Go.Hm
theorem zfs{w:World}(x:Int)(n:Nat)(a:U32 x)(d:1<=n/\n<=31):
 Calls Tryz.prog 80 #[.int .u32 x,.int .i64 (n:Int)] w (DrewPost (.int .u32 (rot x n)) w):=by
 obtain⟨e,c⟩:=d;have b:=qwk (qmm a c);clear a;go_enter Tryz.func80,Tryz.ntmps80
 go_wp2
 go_quiet (fail)
 go_wp2
 go_ret
 exact⟨by rw[<-b.out];rfl,_,rfl⟩
theorem zf5{w:World}{g:Nat}{ty:TypeId}{l:List Int}{k:IntKind}{i:Nat}(h:Blk w g ty (za5 k l).toArray)(hi:i<l.length):w.cell? ⟨g,i,none⟩=some (.int k (l.getD i 0)):=by rw[h.cell];simpa using zpq k l i hi
theorem zlz{w:World}{g:Nat}{ty:TypeId}{l:List Nat}{k:IntKind}{i:Nat}(h:Blk w g ty (zar k l).toArray)(hi:i<l.length):w.cell? ⟨g,i,none⟩=some (.int k ((l.getD i 0:Nat):Int)):=by rw[h.cell];simpa using zyy k l i hi
theorem zt8{w:World}{g:Nat}{ty:TypeId}{l:List Int}{k:IntKind}{i:Nat}(h:Blk w g ty (za5 k l).toArray)(x:Int):Blk (w.setCell ⟨g,i,none⟩ (.int k x)) g ty (za5 k (l.set i x)).toArray:=by have:=h.set_ i (.int k x);simpa[za5,List.map_set] using this
theorem zbi{w:World}{g:Nat}{ty:TypeId}{a:Array Value}(h:Blk w g ty a)(cs:Array Value):Blk (w.setRow g cs) g ty cs:=by unfold Blk at h⊢;simp[World.setRow,Array.getElem?_modify,h]
theorem zbv{g:Nat}(w:World)(cs:Array Value):Far g w (w.setRow g cs):=
 ⟨rfl,rfl,rfl,by simp[World.setRow],fun k _ a=>by simp[World.setRow,Array.getElem?_modify];intro e;subst e;exact absurd rfl a⟩
theorem zy5{g i:Nat}(u:Value)(w:World):Far g w (w.setCell ⟨g,i,none⟩ u):=
 ⟨rfl,rfl,rfl,by simp[World.setCell],fun k _ a=>qwc _ _ _ _ (by rintro rfl;exact a rfl)⟩
theorem za1{w:World}{g:Nat}{ty:TypeId}{cs:Array Value}(h:Blk w g ty cs):w.heap[g]? =some (.cells cs ty (0,0)):=h
theorem zfb(k:IntKind)(l:List Int):(za5 k l).toArray.all (·.oneCell')=true:=by rw[List.all_toArray,qs9];intro u a;simp only[za5,qqu] at a;obtain⟨z,_,rfl⟩:=a;rfl
def zl0:List Int:=List.replicate 64 0
theorem z7z{w:World}(B:List Nat)(hB:B.length=64)(h8:∀x∈B,x<256):
 Calls Tryz.prog 79 #[.agg (zar .u8 B).toArray] w (zap (.agg (za5 .u32 (zc2 B)).toArray) w):=by
 have b8:(zg3 B).length=16:=by simp[zg3]
 have C:=qwk b8;clear b8;go_enter Tryz.func79,Tryz.ntmps79
 go_wp2
 go_loopw [10] (fun i wr=>∃k:Nat,k<=16/\i= .int .i64 (k:Int)/\Hid (Blk wr (w.heap.size+1+1) 148 (za5 .u32 (zy2 ((zg3 B).take k))).toArray)/\Hid (Blk wr w.heap.size 101 (zar .u8 B).toArray)/\Hid (Blk wr (w.heap.size+1) 148 (za5 .u32 zl0).toArray)/\New w wr) (fun i _=>16-(intOf i).toNat)
 case atStart=>
  refine⟨0,by omega,rfl,qwk ?_,qwk ?_,qwk ?_,?_⟩
  ·have h:=qw1 ((w.alloc (.cells (zar .u8 B).toArray 101)).alloc (.cells (za5 .u32 zl0).toArray 148)) 148 (za5 .u32 zl0).toArray
   simp only[World.alloc,Array.size_push] at h;exact h
  ·exact((qw1 w _ _).alloc _).alloc _
  ·have h:=(qw1 (w.alloc (.cells (zar .u8 B).toArray 101)) 148 (za5 .u32 zl0).toArray).alloc (.cells (za5 .u32 zl0).toArray 148)
   simp only[World.alloc,Array.size_push] at h;exact h
  ·exact(((qwd _ _).alloc (qq0 _) _).alloc (by simp) _).alloc (by simp;omega) _
 case round=>
  obtain⟨k,hk,rfl,T,P,Z,b⟩:=hrel;by_cases c5:k<16
  ·obtain⟨a,ha⟩:∃a,a=4*k:=⟨_,rfl⟩
   obtain⟨N,b9⟩:∃a,a=4*k+1:=⟨_,rfl⟩;obtain⟨O,c0⟩:∃a,a=4*k+2:=⟨_,rfl⟩;obtain⟨Q,c1⟩:∃a,a=4*k+3:=⟨_,rfl⟩;have i0:IntKind.i64.wrap (4*(k:Int))=(a:Int):=by rw[qwr];omega
   have i1:IntKind.i64.wrap ((a:Int)+1)=(N:Int):=by rw[qwr];omega
   have i2:IntKind.i64.wrap ((a:Int)+2)=(O:Int):=by rw[qwr];omega
   have i3:IntKind.i64.wrap ((a:Int)+3)=(Q:Int):=by rw[qwr];omega
   have j0:(a:Int)<64:=by omega
   have j1:(N:Int)<64:=by omega
   have j2:(O:Int)<64:=by omega
   have j3:(Q:Int)<64:=by omega
   have c8:=zf0 B a h8;have c9:=zf0 B N h8;have d0:=zf0 B O h8;have d1:=zf0 B Q h8;have X:=zy3 (B:=B) c5;rw[<-b9,<-c0,<-c1,<-ha] at X;have c6:=qjt c8 c9 d0 d1;have d:=z1h (l:=(zg3 B).take k) (by rw[qqx,C.out];omega) (zv1 (B.getD a 0) (B.getD N 0) (B.getD O 0) (B.getD Q 0));rw[<-X,qqx,C.out,qqy (by omega)] at d;have F:=qwk (fun(W:World) (z:Far (w.heap.size+1+1) wr W)=>show W.cell? ⟨w.heap.size,a,none⟩=some (.int .u8 ((B.getD a 0:Nat):Int))/\W.cell? ⟨w.heap.size,N,none⟩=some (.int .u8 ((B.getD N 0:Nat):Int))/\W.cell? ⟨w.heap.size,O,none⟩=some (.int .u8 ((B.getD O 0:Nat):Int))/\W.cell? ⟨w.heap.size,Q,none⟩=some (.int .u8 ((B.getD Q 0:Nat):Int)) by have P2:=P.out.grown z (by simp;omega);exact⟨zlz P2 (by omega),zlz P2 (by omega),zlz P2 (by omega),zlz P2 (by omega)⟩)
   generalize B.getD a 0=x0 at*;generalize B.getD N 0=x1 at*;generalize B.getD O 0=x2 at*;generalize B.getD Q 0=x3 at*;have m:=qwk d;have a6:=qwk c6;have d6:(k:Int)<64:=by omega
   have HT:=qwk (z1g (l:=(zg3 B).take k) (by rw[qqx,C.out];omega));clear ha b9 c0 c1 X d c6 c8 c9 d0 d1;go_wp2
   refine zav (Far (w.heap.size+1+1)) [(true,0),(true,1),(true,2),(true,3),(true,4),(true,5),(true,6),(true,7),(true,8),(true,9),(true,10),(true,11),(true,12),(true,13),(true,14),(true,15),(true,16),(true,17),(true,18),(true,19),(true,20),(true,21),(true,22),(true,23),(true,24),(true,25),(true,26),(true,27),(true,28),(true,29),(true,30),(false,31)]
    (qw7 _) qw8 (by kernel_rfl) (by kernel_rfl) (by kernel_rfl) (by kernel_rfl) ?_
   iterate 31 (
    refine zas rfl rfl (v:=?_) (fun W z=>?_) ?_;rotate_left
    ·obtain⟨y0,y1,y2,y3⟩:=F.out W (qw8 (Far.drew _ wr) z)
     go_simp<;> with_reducible rfl
    simp only[Act.put,qta,qs1,qtb])
   rw[a6.out];have D:Blk wr.drew (w.heap.size+1+1) 148 (za5 .u32 (zy2 ((zg3 B).take k))).toArray:=T.out;have z0:=zf5 (i:=k) D (by rw[HT.out];omega);have f0:=D.frozen k;have hF:Far (w.heap.size+1+1) wr.drew (wr.drew.setCell ⟨w.heap.size+1+1,k,none⟩ (.int .u32 (zv1 x0 x1 x2 x3))):=zy5 _ _;have T3:=qwk (zt8 D (i:=k) (zv1 x0 x1 x2 x3));clear D;refine za7 rfl rfl (fun K hK=>?_);go_simp
   refine hK _ _ hF ?_;clear hK z0 f0;refine zdr ?_;rw[m.out] at T3;have E:=qw8 (Far.drew _ wr) hF;have P3:=qwk (P.out.grown E (by simp;omega));have Z3:=qwk (Z.out.grown E (by simp));have b3:=qxb b E (by omega);clear F m a6 HT hF E i0 i1 i2 i3 j0 j1 j2 j3;go_wp2
   go_roundw
   case rel=>exact⟨k+1,by omega,by go_num,T3,P3,Z3,b3⟩
   case measure=>simp[intOf];omega
  ·have U:=T.out
   rw[qru (by rw[C.out];omega)] at U;have a7:Hid (Blk wr (w.heap.size+1+1) 148 (za5 .u32 (zy2 (zbr B 0))).toArray):=qwk U;clear U T;go_wp2
   go_loopw [5] (fun i wr=>∃t j:Nat,Hid (t=16+j)/\16<=t/\t<=64/\i= .int .i64 (t:Int)/\Hid (Blk wr (w.heap.size+1+1) 148 (za5 .u32 (zy2 (zbr B j))).toArray)/\Hid (Blk wr (w.heap.size+1) 148 (za5 .u32 zl0).toArray)/\New w wr) (fun i _=>64-(intOf i).toNat)
   case atStart=>exact⟨16,0,qwk rfl,by omega,by omega,rfl,a7,Z,b⟩
   case round=>
    clear P Z b a7;obtain⟨t,j,M,d7,d8,rfl,T,Z,b⟩:=hrel;by_cases c5:t<64
    ·obtain⟨f,I⟩:∃a,a=t-15:=⟨_,rfl⟩
     obtain⟨s,c3⟩:∃a,a=t-2:=⟨_,rfl⟩;obtain⟨n,J⟩:∃a,a=t-16:=⟨_,rfl⟩;obtain⟨R,c4⟩:∃a,a=t-7:=⟨_,rfl⟩;have d2:IntKind.i64.wrap ((t:Int)-15)=(f:Int):=by rw[qwr];omega
     have i2:IntKind.i64.wrap ((t:Int)-2)=(s:Int):=by rw[qwr];omega
     have d3:IntKind.i64.wrap ((t:Int)-16)=(n:Int):=by rw[qwr];omega
     have i7:IntKind.i64.wrap ((t:Int)-7)=(R:Int):=by rw[qwr];omega
     have d4:(f:Int)<64:=by omega
     have j2:(s:Int)<64:=by omega
     have d5:(n:Int)<64:=by omega
     have j7:(R:Int)<64:=by omega
     have jt:(t:Int)<64:=by omega
     have c:(zbr B j).length=t:=by rw[znb,M.out]
     have r:(zy2 (zbr B j)).length=64:=z1g (by omega);have hU:=z1f B h8 j;have d:=z1h (l:=zbr B j) (by omega) (z37 (zbr B j));rw[c,show zbr B j++[z37 (zbr B j)]=zbr B (j+1) from rfl] at d;have q:z37 (zbr B j)=IntKind.u32.wrap (IntKind.u32.wrap (IntKind.u32.wrap ((zbr B j).getD n 0+bits .xor .u32 (bits .xor .u32 (rot ((zbr B j).getD f 0) 7) (rot ((zbr B j).getD f 0) 18)) ((zbr B j).getD f 0/8))+(zbr B j).getD R 0)
      +bits .xor .u32 (bits .xor .u32 (rot ((zbr B j).getD s 0) 17) (rot ((zbr B j).getD s 0) 19)) ((zbr B j).getD s 0/1024)):=by
      unfold z37;rw[c,<-I,<-c3,<-J,<-c4]
     have F:=qwk (fun(W:World) (z:Far (w.heap.size+1+1) wr W) (o:New wr W)=>show W.cell? ⟨w.heap.size+1+1,f,none⟩=some (.int .u32 ((zbr B j).getD f 0))/\W.cell? ⟨w.heap.size+1+1,s,none⟩=some (.int .u32 ((zbr B j).getD s 0))/\W.cell? ⟨w.heap.size+1+1,n,none⟩=some (.int .u32 ((zbr B j).getD n 0))/\W.cell? ⟨w.heap.size+1+1,R,none⟩=some (.int .u32 ((zbr B j).getD R 0)) by have D:=T.out.below o T.out.lt;have b5:=zf5 (i:=f) D (by omega);have c2:=zf5 (i:=s) D (by omega);have b6:=zf5 (i:=n) D (by omega);have c7:=zf5 (i:=R) D (by omega);rw[qd6 (by omega)] at b5 c2 b6 c7;exact⟨b5,c2,b6,c7⟩)
     have a0:=qii (k:=f) hU;have a4:=qii (k:=s) hU;generalize z37 (zbr B j)=nx at*;generalize(zbr B j).getD f 0=x at*;generalize(zbr B j).getD s 0=y at*;generalize(zbr B j).getD n 0=v at*;generalize(zbr B j).getD R 0=u at*;have T7:=qwk (fun W:World=>show Calls Tryz.prog 80 #[.int .u32 x,.int .i64 7] W (DrewPost (.int .u32 (rot x 7)) W) from zfs x 7 a0 (by omega));have b1:=qwk (fun W:World=>show Calls Tryz.prog 80 #[.int .u32 x,.int .i64 18] W (DrewPost (.int .u32 (rot x 18)) W) from zfs x 18 a0 (by omega));have b0:=qwk (fun W:World=>show Calls Tryz.prog 80 #[.int .u32 y,.int .i64 17] W (DrewPost (.int .u32 (rot y 17)) W) from zfs y 17 a4 (by omega));have b4:=qwk (fun W:World=>show Calls Tryz.prog 80 #[.int .u32 y,.int .i64 19] W (DrewPost (.int .u32 (rot y 19)) W) from zfs y 19 a4 (by omega));have m:=qwk d;have p:=qwk q;have G:=qwk r;clear d q r c a0 a4 hU I c3 J c4;generalize rot x 7=r7 at*;generalize rot x 18=e0 at*;generalize rot y 17=d9 at*;generalize rot y 19=e1 at*;go_wp2
     refine zav New [(true,0),(true,1),(true,2),(true,3),(true,4),(true,5),(true,6),(true,7),(true,8),(true,9)]
      qw4 qw5 (by kernel_rfl) (by kernel_rfl) (by kernel_rfl) (by kernel_rfl) ?_
     have o:=qw6 wr;iterate 10 (
      refine zas rfl rfl (v:=?_) (fun W z=>?_) ?_;rotate_left
      ·obtain⟨y0,y1,y2,y3⟩:=F.out W (qw9 (qw5 o z)) (qw5 o z)
       go_simp<;> with_reducible rfl
      simp only[Act.put,qta,qs1,qtb])
     refine zdr ?_;go_wp2_with fail
     (with_reducible refine(T7.out _).mono ?_)
     rintro e w2 ⟨rfl,k2,rfl⟩;replace o:=qw5 o (zd4 _ k2);go_wp2_with fail
     (with_reducible refine(b1.out _).mono ?_)
     rintro e w2 ⟨rfl,k3,rfl⟩;replace o:=qw5 o (zd4 _ k3);go_wp2_with fail
     (with_reducible refine(b0.out _).mono ?_)
     rintro e w2 ⟨rfl,k4,rfl⟩;replace o:=qw5 o (zd4 _ k4);go_wp2_with fail
     (with_reducible refine(b4.out _).mono ?_)
     rintro e w2 ⟨rfl,k5,rfl⟩;replace o:=qw5 o (zd4 _ k5);go_wp2_with fail
     refine zc6 New 15 [(1,0),(1,1),(1,2),(1,3),(0,4),(1,5),(1,6),(1,7),(1,8),(1,9),(0,10),(1,11),(1,12),(1,13),(1,14),(2,15)]
      qw4 qw5 (by kernel_rfl) (by kernel_rfl) (by kernel_rfl) (by kernel_rfl) ?_
     obtain⟨V,hV⟩:∃V,V=(wr.drewN (1+k2+k3+k4+k5)).drew:=⟨_,rfl⟩;have S:New wr V:=by rw[hV];exact qw5 (zd4 _ _) (qw6 _)
     have TD:Blk V (w.heap.size+1+1) 148 (za5 .u32 (zy2 (zbr B j))).toArray:=by rw[hV];exact T.out
     have ZD:Blk V (w.heap.size+1) 148 (za5 .u32 zl0).toArray:=by rw[hV];exact Z.out
     rw[<-hV];have A:=qwk TD;have a9:=qwk ZD;clear hV TD ZD o;repeat(first
      |(refine zb8 rfl rfl (v:=?_) (fun W=>?_) ?_;rotate_left;(go_simp<;> with_reducible rfl);simp only[Act.put,qta,qs1,qtb])
      |(refine zc7 rfl rfl (v:=?_) (fun W z=>?_) ?_;rotate_left;(obtain⟨y0,y1,y2,y3⟩:=F.out W (qw9 (qw5 S z)) (qw5 S z);go_simp<;> with_reducible rfl);simp only[Act.put,qta,qs1,qtb]))
     rw[<-p.out];have z0:=zf5 (i:=t) A.out (by rw[G.out];omega);have f0:=A.out.frozen t;have hF:Far (w.heap.size+1+1) V (V.setCell ⟨w.heap.size+1+1,t,none⟩ (.int .u32 nx)):=zy5 _ _;have T3:=qwk (zt8 A.out (i:=t) nx);rw[m.out] at T3;have Z3:=qwk (a9.out.grown hF (by simp));have b3:=qxb (qw5 b S) hF (by omega);refine zbh rfl rfl (fun K hK=>?_);go_simp
     refine hK _ _ (.inr (.inl rfl)) ?_;clear hK z0 f0 hF;refine zgm ?_;have a8:=qwk (show t+1=16+(j+1) by rw[M.out];omega);clear F m p G A a9 d2 i2 d3 i7 d4 j2 d5 j7 jt T7 b0 b1 b4;go_wp2
     go_roundw
     case rel=>exact⟨t+1,j+1,a8,by omega,by omega,by go_num,T3,Z3,b3⟩
     case measure=>simp[intOf];omega
    ·obtain rfl:t=64:=by omega
     have hj:j=48:=by have:=M.out;omega
     subst hj;have c:(zbr B 48).length=64:=by rw[znb]
     have U:=T.out;rw[z7v c] at U;have Y:(za5 .u32 (zbr B 48)).toArray.size=64:=by simp[za5,c]
     have hz:(za5 .u32 zl0).toArray.size=64:=by simp[za5,zl0]
     have i1:(Tryz.prog.info? 148).map (·.size)=some (za5 .u32 (zbr B 48)).toArray.size:=by rw[Y];kernel_rfl
     have G1:=za1 U;have G2:=za1 Z.out;have hR:=zbi Z.out (za5 .u32 (zbr B 48)).toArray;have hF:=zbv (g:=w.heap.size+1) wr (za5 .u32 (zbr B 48)).toArray;have bE:=qxb b hF (by omega);have H:=qwk (qtc Y (qtc hz (qtc i1 (qtc G1 (qtc G2 (qtc hR bE))))));have hS:zbr B 48=zc2 B:=rfl;rw[hS] at H;have L:=zfb .u32 (zc2 B);have a5:=qwk L;generalize(za5 .u32 (zc2 B)).toArray=cs at*;clear U Y hz i1 G1 G2 hR hF bE hS L T Z c;go_wp2_with (first
      |(refine wpList_load_row rfl 148 (.tmp 3) rfl (w.heap.size+1+1) rfl _ cs _ _ H.out.2.2.2.1 (show Tryz.prog.underlying 148=some (.array 64 97) by kernel_rfl) rfl H.out.2.2.1 ?_)
      |(refine wpList_store_row rfl 148 (.tmp 2) (.tmp 88) rfl (w.heap.size+1) cs rfl rfl _ _ H.out.2.2.2.2.1 H.out.2.2.1 (by rw[H.out.1,H.out.2.1]) a5.out ?_))
     exact bodyPost_ret (results_cell_row rfl _ _ (w.heap.size+1) _ cs (0,0) _ rfl H.out.2.2.2.2.2.1 (show Tryz.prog.underlying 148=some (.array 64 97) by kernel_rfl) rfl H.out.2.2.1) rfl ⟨rfl,H.out.2.2.2.2.2.2⟩
end Go.Proofs.Y
namespace Go.Hm
open Go Go.RowKit
section
variable{P:Program}{o:Oper}{a:Act}{Q:Exit->Act->World->Prop}{K:Act->World->Prop}
theorem zy9{w:World}{t e:TypeId}{z:Value}{sz d:Nat}(E:ElT P t e z sz d)(s x:Operand)
 (X:o.op= .call {callee:= .builtin .append,args:= #[s,x],argTypes:= #[t,t]})
 {W:World}{B base n m c:Nat}{v:Value}{xs news:List Value}{A:Option Addr}(b:w.ownsRow base e sz v n xs)(F:Reads w w.heap.size sz A m news)(Y:a.eval s=v)(hx:a.eval x= .slice A m c)
 (U:Below B W w)(H:B<=base)(f:base<=w.heap.size)(h1:∀u∈news,u.oneCell'=true)
 (L:(n+m)*d<=140737488355328)(hm:n+m<=maxLen)
 (h:∀A' c' w',n+m<=c'->c'<=maxLen->w'.ownsRow base e sz (.slice A' (n+m) c') (n+m) (xs++news)->w.grownBy w' v.ownBlock->Below B W w'->K (a.put o.dst (.slice A' (n+m) c')) w'):
 Oper.wp P o a w K Q:=by
 obtain⟨i,I,R,S,T⟩:=info_parts E.hi;rcases A with _|G
 ·have J:m=0:=by
   rcases qrg m with q|q
   ·exact q
   ·obtain⟨G,C,_⟩:=F.2 q
    cases C
  subst J;have M:news=[]:=qrh (by have:=F.1;omega);subst M;have D:∀ty,(Builtin.append_ #[t,t] ty #[v,.slice none 0 c]).run P w= .ok v w:=by
   intro ty;rcases b.2 with⟨rfl,a3⟩|⟨g,a1,a2,rfl,_,_,N,_⟩
   ·simp[Builtin.append_,run_underlying E.ht,sizeOf,typeInfo,I,Builtin.lenOf,Builtin.firstCells]
   ·simp[Builtin.append_,run_underlying E.ht,sizeOf,typeInfo,I,Builtin.lenOf,Builtin.firstCells,N,storeCells]
  obtain⟨A',c',rfl,r,y⟩:=zes b;unfold Oper.wp execOp;simp only[X,resolve,invoke,builtin,qwg,qwh,qwi,qri,qrj,qrk,Y,hx,D];exact h A' c' w r y (by simpa using b) (qql w _) U
 ·have hl:news.length=m*sz:=F.1
  have p:∀j u,news[j]? =some u->w.cell? (G.add j)=some u:=by
   intro j u Z;rcases qrg m with q|q
   ·subst q
    have L:news=[]:=qrh (by omega);subst L;simp at Z
   ·obtain⟨a0,C,_,hc⟩:=F.2 q
    injection C with C;subst C;exact hc j u Z
  obtain⟨v',w',O,l,V,_,_⟩:=run_append_own_at (P:=P) w base t o.type e i z sz d E.ht I R S T E.hz E.hs v n xs b G m c news hl p h1 hm L f;obtain⟨A',c',rfl,r,y⟩:=zes l;unfold Oper.wp execOp;simp only[X,resolve,invoke,builtin,qwg,qwh,qwi,qri,qrj,qrk,Y,hx,O];exact h A' c' w' r y l V (U.grown V (qqs H f) (fun k hk=>by have:=(qqj b k hk).1;omega))
end
def zbt(v:Value):List Nat:=match v.ownBlock with|some g=>[g]|none=>[]
theorem Turns.row{w w':World}{v:Value}(h:w.grownBy w' v.ownBlock):Turns (zbt v) w w':=by
 unfold zbt;cases e:v.ownBlock with
 |none=>rw[e] at h;exact qxg h
 |some g=>rw[e] at h;exact qxf h (by simp)
abbrev qxl:=@Turns.row
theorem zp6{w:World}{base sz n:Nat}{e:TypeId}{v:Value}{xs:List Value}(h:w.ownsRow base e sz v n xs):∀x∈zbt v,base<=x/\x<w.heap.size:=by
 intro x b;unfold zbt at b;cases e:v.ownBlock with
 |none=>rw[e] at b;simp at b
 |some g=>rw[e] at b;simp at b;subst b;exact qqj h _ e
theorem zfo{w:World}{base sz n:Nat}{e t:TypeId}{v:Value}{xs:List Value}{g:Nat}{cs:Array Value}(h:w.ownsRow base e sz v n xs)(d:Blk w g t cs)(c:e≠t):g∉zbt v:=by
 intro b;unfold zbt at b;cases e':v.ownBlock with
 |none=>rw[e'] at b;simp at b
 |some f=>rw[e'] at b;simp at b;subst b;exact zat h d c e'
theorem zp7{w w':World}{base sz n:Nat}{e:TypeId}{v:Value}{xs:List Value}{T:List Nat}(h:w.ownsRow base e sz v n xs)(k:Turns T w w')(i:∀x∈T,v.ownBlock≠some x):w'.ownsRow base e sz v n xs:=by
 refine⟨h.1,?_⟩;rcases h.2 with l|⟨g,c,d,rfl,f,b,rest⟩
 ·exact .inl l
 ·refine .inr ⟨g,c,d,rfl,f,?_,rest⟩
  rw[k.block g (qq2.1 b).1 (fun j=>i g j rfl)];exact b
theorem zp8{w:World}{base b sz f n s:Nat}{e k:TypeId}{v i:Value}{xs j:List Value}(h:w.ownsRow base e sz v n xs)(q:w.ownsRow b k f i s j)(d:e≠k):∀x∈zbt i,v.ownBlock≠some x:=by
 intro x c;unfold zbt at c;cases e':i.ownBlock with
 |none=>rw[e'] at c;simp at c
 |some g=>
  rw[e'] at c;simp at c;subst c;rcases q.2 with⟨rfl,_⟩|⟨p,l,m,rfl,_,r,_⟩
  ·simp[Value.ownBlock] at e'
  ·have:p=x:=by simpa[Value.ownBlock] using e'
   subst this;exact zat h r d
def ul(w p k B n:Nat):List Nat:=zr3 w p B++(B/2^(w*p)%2^k)::List.replicate (n-p-1) 0
theorem qki(w p B n:Nat)(h:p<n):zr3 w p B++List.replicate (n-p) 0=ul w p 0 B n:=by rw[ul,show n-p=(n-p-1)+1 by omega,qs0,quz,qr4];rfl
theorem qmv(w p B n:Nat):ul w p w B n=zr3 w (p+1) B++List.replicate (n-(p+1)) 0:=by rw[ul,zr3,qrc,show n-p-1=n-(p+1) by omega];rfl
theorem qkj(w p k B n:Nat):(ul w p k B n).getD p 0=B/2^(w*p)%2^k:=by rw[ul,qsh,qtp (by rw[zfc];exact qq0 _),zfc];simp
theorem qkk(w p k B n a t:Nat)(b:a=w*p+k)(c:t=B/2^a%2):(ul w p k B n).set p (B/2^(w*p)%2^k+t*2^k)=ul w p (k+1) B n:=by
 have e:B/2^(w*p)%2^(k+1)=B/2^(w*p)%2^k+t*2^k:=by rw[zod,qt0,<-qss,<-b,<-c,qrl t]
 rw[ul,ul,e,qsy _ _ (by rw[zfc];exact qq0 _),zfc,qsz];rfl
theorem qmw(b:List Nat)(h:∀x∈b,x<256)(a q r:Nat)(d:q=a/8/\r=a%8)(f:a<8*b.length):b.getD q 0/2^r%2=num b/2^a%2:=by
 obtain⟨rfl,rfl⟩:=d;rw[z1l b h _ (by omega)];have e:(256:Nat)=2^(a%8)*2^(8-a%8):=by rw[<-qss,show a%8+(8-a%8)=8 by omega]
 have c:2^(8-a%8)=2*2^(7-a%8):=by rw[<-Nat.pow_succ'];congr 1;omega
 rw[show num b/256^(a/8)%256=num b/256^(a/8)%(2^(a%8)*2^(8-a%8)) by rw[<-e],qt3,c,Nat.mod_mul_right_mod,qt0,qj6,<-qss];congr 3
 omega
theorem z1y(b:List Nat)(h:∀x∈b,x<256)(M r:Nat)(l:b.length=(M+7)/8)(m:r=M%8):num b<2^M↔(r=0\/b.getD (b.length-1) 0/2^r=0):=by
 have d:=zsl b h;by_cases i:r=0
 ·have:M=8*b.length:=by omega
  rw[qj6,<-this] at d;simp[i,d]
 ·have f:b.length-1<b.length:=by omega
  have k:M=8*(b.length-1)+r:=by omega
  have e:=z1l b h _ f;have g:num b/256^(b.length-1)<256:=by apply qrz;rw[<-qrx,show(b.length-1).succ=b.length by omega];exact d
  rw[qr8 g] at e;rw[e,k,qss,<-qj6];constructor
  ·intro a
   exact .inr (qt2 (qrz a))
  ·rintro(a|a)
   ·exact absurd a i
   ·have j:num b/256^(b.length-1)<2^r:=by
     rcases qq4 (num b/256^(b.length-1)) (2^r) with c|c
     ·exact c
     ·have:=Nat.div_pos c (qsn r)
      omega
    rw[qrl];exact(Nat.div_lt_iff_lt_mul (qry (by omega))).1 j
theorem qe8(v k t:Nat)(d:v<2^k)(c:t<=1)(f:k<64):bits .or .u64 (v:Int) (IntKind.u64.wrap ((t:Int)*2^k))=((v+t*2^k:Nat):Int):=by
 have b:2^(k+1)<=2^64:=qsb (by omega) (by omega);rw[qrx] at b;have g:t*2^k<=1*2^k:=qqz _ c;have e:IntKind.u64.wrap ((t:Int)*2^k)=((t*2^k:Nat):Int):=by
  have a:((t*2^k:Nat):Int)=(t:Int)*2^k:=by simp
  rw[<-a,qwp];omega
 rw[e,u64_or_nat _ _ (by omega) (by omega),qsc,<-qrl (2^k),<-qsd d,qse]
theorem qe9(y r t:Nat)(c:y<256)(a:t=y/2^r%2):bits .and .u8 ((y:Int)/2^r) 1=(t:Int):=by have b:y/2^r<=y:=qr9 _ _;have:=u8_and_nat (y/2^r) 1 (by omega) (by omega);rw[Nat.and_one_is_mod,<-a] at this;rw[<-this];congr 1
end Go.Hm
namespace Go.Proofs.Y
open Go.RowKit Go.Hm
theorem qkt{b b':Bool}{n n':Int}{s s':ByteArray}{x x' y y':Int}(W:World):
 (binOp .neq 75 (.agg #[.bool b,.int .i64 n,.string s,.int .i64 x,.int .i64 y]) (.agg #[.bool b',.int .i64 n',.string s',.int .i64 x',.int .i64 y'])).run Tryz.prog W= .ok (.bool (!(b==b'&&n==n'&&s.toList==s'.toList&&x==x'&&y==y'))) W:=by
 by_cases a:b=b'<;> by_cases c:n=n'<;> by_cases d:s.toList=s'.toList<;> by_cases e:x=x'<;> by_cases f:y=y';all_goals go_simp
open Go.RowKit Go.Hm Go.WideShapes Go.ChangeShapes
set_option maxRecDepth 100000
section
variable{H:Type}{enc:TypeId × Value->H}{W:World}{base:Nat}{v:Value}{d:DataW H}{ps:List MemPlace}
theorem qdd(e:Value.okWide Tryz.prog W .any base 59 v)(h:DataW.Trod enc Tryz.prog W 0 (fun _=>true) true 59 v d ps)(i:∀p∈ps,p.block<W.heap.size)(t:∀n∈d.weights Tryz.prog 59,n<=reachBytes):
 ∃g p A c,∃l:List Int,v= .agg #[.int .i64 g,.int .i64 p,.slice A l.length c]/\l.length<=c/\c*8<=140737488351232/\Reads W W.heap.size 1 A l.length (za5 .i64 l):=by
 have b:Tryz.prog.underlying 59=some (.struct (zdm Tryz.prog 59)):=by kernel_rfl
 obtain⟨⟨y⟩,rfl,s⟩:=okWide_struct b e;have a:=Held.of h i t;simp only[Value.cells] at a;obtain⟨z,B,C,rfl⟩:=qj2 (a.partLen b (n:=3) (by kernel_rfl));have u:=a.part b 0 0 1 (ft:=3) (by kernel_rfl) (by kernel_rfl);have w:=a.part b 1 1 1 (ft:=3) (by kernel_rfl) (by kernel_rfl);have x:=a.part b 2 2 1 (ft:=57) (by kernel_rfl) (by kernel_rfl);obtain⟨A,c,l,j,o,q,r,_⟩:=x.ints_ (te:=3) (by kernel_rfl) (by kernel_rfl) (by kernel_rfl) (by kernel_rfl);obtain⟨f,k,_⟩:=u.i64 (by kernel_rfl);obtain⟨g,m,_⟩:=w.i64 (by kernel_rfl);simp only[qu8,qu9,qva,qrq,qqe,and_true] at j k m;subst j k m;exact⟨f,g,A,c,l,rfl,o,q,r⟩
end
end Go.Proofs.Y
