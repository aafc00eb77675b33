import Derived.Test.YtbahbnbpmfgimaaGreatDoorBun6
import Derived.Test.YtbahbnbpmfgimaaGreatDoorBun7
set_option maxHeartbeats 2000000
set_option maxRecDepth 100000
namespace Go.Hm
open Go Go.RowKit
theorem qmp{w:World}{g:Nat}{ty:TypeId}{s:S8}(h:Blk w g ty (zb1 s)):w.cell? ⟨g,0,none⟩=some (.int .u32 s.1)/\w.cell? ⟨g,1,none⟩=some (.int .u32 s.2.1)/\w.cell? ⟨g,2,none⟩=some (.int .u32 s.2.2.1)/\w.cell? ⟨g,3,none⟩=some (.int .u32 s.2.2.2.1)/\w.cell? ⟨g,4,none⟩=some (.int .u32 s.2.2.2.2.1)/\w.cell? ⟨g,5,none⟩=some (.int .u32 s.2.2.2.2.2.1)/\w.cell? ⟨g,6,none⟩=some (.int .u32 s.2.2.2.2.2.2.1)/\w.cell? ⟨g,7,none⟩=some (.int .u32 s.2.2.2.2.2.2.2):=by have e:∀i,w.cell? ⟨g,i,none⟩=(zb1 s)[i]? :=h.cell;exact⟨e 0,e 1,e 2,e 3,e 4,e 5,e 6,e 7⟩
def ConstIn(w:World):Prop:=1<w.heap.size/\ ∀i,i<64->w.cell? ⟨1,i,none⟩=some (.int .u32 (kI.getD i 0))
theorem zj0(s:S8):(zb1 s).all (·.oneCell')=true:=by simp[zb1,Value.oneCell']
theorem zbj(w:World)(t:TypeId)(a cs:Array Value):(w.alloc (.cells a t)).setRow w.heap.size cs=w.alloc (.cells cs t):=by
 unfold World.alloc World.setRow;congr 1
 apply Array.ext_getElem?;intro i;simp only[qq6,Array.getElem?_push];by_cases h:i=w.heap.size
 ·subst h;simp
 ·simp[h];intro b;exact absurd b.symm h
theorem ConstIn.new{w w':World}(h:ConstIn w)(a:New w w'):ConstIn w':=⟨qqv h.1 a.size,fun i b=>(a.cell h.1).trans (h.2 i b)⟩
end Go.Hm
namespace Go.Proofs.Y
open Go.RowKit Go.Hm
theorem zn9{w:World}(s:S8)(hs:OkS s)(B:List Nat)(hB:B.length=64)(h8:∀x∈B,x<256)(hC:ConstIn w):
 Calls Tryz.prog 46 #[.agg (zb1 s),.agg (zar .u8 B).toArray] w (zap (.agg (zb1 (z38 s B))) w):=by
 obtain⟨N,j⟩:∃W,W=((w.alloc (.cells (zb1 s) 98)).alloc (.cells (zar .u8 B).toArray 101)).alloc (.cells (zb1 (0,0,0,0,0,0,0,0)) 98):=⟨_,rfl⟩;have e1:(w.alloc (.cells (zb1 s) 98)).heap.size=w.heap.size+1:=by simp
 have e2:((w.alloc (.cells (zb1 s) 98)).alloc (.cells (zar .u8 B).toArray 101)).heap.size=w.heap.size+1+1:=by simp
 have b0:New w N:=by rw[j];exact(((qwd _ _).alloc (qq0 _) _).alloc (by simp) _).alloc (by simp;omega) _
 have A0:Blk N w.heap.size 98 (zb1 s):=by rw[j];exact((qw1 _ _ _).alloc _).alloc _
 have P0:Blk N (w.heap.size+1) 101 (zar .u8 B).toArray:=by rw[j,<-e1];exact(qw1 _ _ _).alloc _
 have R0:Blk N (w.heap.size+1+1) 98 (zb1 (0,0,0,0,0,0,0,0)):=by rw[j,<-e2];exact qw1 _ _ _
 have m:(zar .u8 B).toArray.size=64:=by simp[zar,hB]
 have T:(Tryz.prog.info? 101).map (·.size)=some (zar .u8 B).toArray.size:=by rw[m];kernel_rfl
 have L1:=qwk (qtc (za1 P0) T);have SC:=qwk (fun W:World=>z7z (w:=W) B hB h8);have HW:=qwk (show N=((w.alloc (.cells #[.int .u32 s.1,.int .u32 s.2.1,.int .u32 s.2.2.1,.int .u32 s.2.2.2.1,.int .u32 s.2.2.2.2.1,.int .u32 s.2.2.2.2.2.1,.int .u32 s.2.2.2.2.2.2.1,.int .u32 s.2.2.2.2.2.2.2] 98)).alloc (.cells (zar .u8 B).toArray 101)).alloc (.cells #[.int .u32 0,.int .u32 0,.int .u32 0,.int .u32 0,.int .u32 0,.int .u32 0,.int .u32 0,.int .u32 0] 98) from j);have HA:=qwk A0;have HP:=qwk P0;have HR:=qwk R0;have HB:=qwk b0;have HK:=qwk (hC.new b0);clear j e1 e2 A0 P0 R0 b0 T m;have HS:=qwk hs;have h0:=L1.out;rw[HW.out] at h0;have L0:=qwk h0;have J:(za5 .u32 (zc2 B)).toArray.size=64:=by simp[za5,zso]
 have U:(Tryz.prog.info? 148).map (·.size)=some (za5 .u32 (zc2 B)).toArray.size:=by rw[J];kernel_rfl
 have Z:=qwk (qtc J (qtc U (zfb .u32 (zc2 B))));have SU:=qwk (qd8 B h8);have SL:=qwk (zso B);rw[show(.agg (zb1 s):Value)= .agg #[.int .u32 s.1,.int .u32 s.2.1,.int .u32 s.2.2.1,.int .u32 s.2.2.2.1,.int .u32 s.2.2.2.2.1,.int .u32 s.2.2.2.2.2.1,.int .u32 s.2.2.2.2.2.2.1,.int .u32 s.2.2.2.2.2.2.2] from rfl];clear L1 h0 J U hB h8 hC hs;go_enter Tryz.func46,Tryz.ntmps46
 go_wp2_with (refine wpList_load_row rfl 101 (.tmp 3) rfl (w.heap.size+1) rfl _ (zar .u8 B).toArray _ _ L0.out.1 (show Tryz.prog.underlying 101=some (.array 64 5) by kernel_rfl) rfl L0.out.2 ?_)
 rw[<-HW.out];refine(SC.out _).mono ?_;rintro e w1 ⟨rfl,b1⟩;clear SC HW L0 HP;go_wp2_with (refine wpList_store_row rfl 148 (.tmp 5) (.tmp 18) rfl w1.heap.size (za5 .u32 (zc2 B)).toArray rfl rfl _ _ (heap_alloc_new _ _) Z.out.2.1 (by rw[Z.out.1];rfl) Z.out.2.2 ?_;rw[zbj])
 obtain⟨C,o⟩:∃W,W=w1.alloc (.cells (za5 .u32 (zc2 B)).toArray 148):=⟨_,rfl⟩;have S:New N C:=by rw[o];exact qw5 b1 ((qwd _ _).alloc (qq0 _) _)
 have C2:Blk C w1.heap.size 148 (za5 .u32 (zc2 B)).toArray:=by rw[o];exact qw1 _ _ _
 rw[<-o];have F:=qwk (fun(W:World) (E:New C W)=>qmp (HA.out.below (qw5 S E) HA.out.lt));have FK:=qwk (fun(t:Nat) (ht:t<64) (W:World) (E:New C W)=>qtc ((HK.out.new (qw5 S E)).2 t ht) (zf5 (i:=t) (C2.below E C2.lt) (by rw[SL.out];exact ht)));have H:=qwk (HR.out.below S HR.out.lt);have a0:=qwk (qw5 HB.out S);have a2:w.heap.size+1+1<C.heap.size:=H.out.lt;generalize a3:w1.heap.size=gc at*;clear a3 o b1 S C2 HA HR HB HK a2 Z;refine zav New [(true,0),(true,1),(true,2),(true,3),(true,4),(true,5),(true,6),(true,7),(true,8),(true,9),(true,10),(true,11),(true,12),(true,13),(true,14),(true,15),(true,16),(true,17),(true,18),(true,19),(true,20),(true,21),(true,22),(true,23)]
  qw4 qw5 (by kernel_rfl) (by kernel_rfl) (by kernel_rfl) (by kernel_rfl) ?_
 iterate 24 (
  refine zas rfl rfl (v:=?_) (fun W E=>?_) ?_;rotate_left
  ·obtain⟨x0,x1,x2,x3,x4,x5,x6,x7⟩:=F.out W (qw5 (qw6 C) E)
   go_simp<;> with_reducible rfl
  simp only[Act.put,qta,qs1,qtb])
 refine zdr ?_;go_wp2
 go_loopw [6,7,8,9,10,11,12,13,35] (fun a b c d e f g i k wr=>∃t:Nat,t<=64/\k= .int .i64 (t:Int)/\a= .int .u32 (zfv (zc2 B) s t).1/\b= .int .u32 (zfv (zc2 B) s t).2.1/\c= .int .u32 (zfv (zc2 B) s t).2.2.1/\d= .int .u32 (zfv (zc2 B) s t).2.2.2.1/\e= .int .u32 (zfv (zc2 B) s t).2.2.2.2.1/\f= .int .u32 (zfv (zc2 B) s t).2.2.2.2.2.1/\g= .int .u32 (zfv (zc2 B) s t).2.2.2.2.2.2.1/\i= .int .u32 (zfv (zc2 B) s t).2.2.2.2.2.2.2/\New C wr) (fun _ _ _ _ _ _ _ _ k _=>64-(intOf k).toNat)
 case atStart=>exact⟨0,by omega,rfl,rfl,rfl,rfl,rfl,rfl,rfl,rfl,rfl,qw6 C⟩
 case round=>
  obtain⟨t,ht,rfl,rfl,rfl,rfl,rfl,rfl,rfl,rfl,rfl,b⟩:=hrel;by_cases a4:t<64
  ·have a5:=z7w (W:=zc2 B) HS.out t
   have V:zfv (zc2 B) s (t+1)=qju (kI.getD t 0) ((zc2 B).getD t 0) (zfv (zc2 B) s t):=rfl;have F2:=qwk (FK.out t a4);have I:=qwk V;generalize hr:zfv (zc2 B) s t=r at*;have a1:=qwk hr;generalize kI.getD t 0=kt at*;generalize(zc2 B).getD t 0=wt at*;obtain⟨a,D,c,d,e,f,g,i⟩:=r;obtain⟨X,ub,uc,ud,Y,uf,ug,ui⟩:=a5;simp only at X Y I⊢;have R:=qwk (fun W:World=>show Calls Tryz.prog 80 #[.int .u32 e,.int .i64 6] W (zap (.int .u32 (rot e 6)) W) from(zfs e 6 Y (by omega)).mono fun _ _ h=>h.new);have z:=qwk (fun W:World=>show Calls Tryz.prog 80 #[.int .u32 e,.int .i64 11] W (zap (.int .u32 (rot e 11)) W) from(zfs e 11 Y (by omega)).mono fun _ _ h=>h.new);have A:=qwk (fun W:World=>show Calls Tryz.prog 80 #[.int .u32 e,.int .i64 25] W (zap (.int .u32 (rot e 25)) W) from(zfs e 25 Y (by omega)).mono fun _ _ h=>h.new);have Q:=qwk (fun W:World=>show Calls Tryz.prog 80 #[.int .u32 a,.int .i64 2] W (zap (.int .u32 (rot a 2)) W) from(zfs a 2 X (by omega)).mono fun _ _ h=>h.new);have u:=qwk (fun W:World=>show Calls Tryz.prog 80 #[.int .u32 a,.int .i64 13] W (zap (.int .u32 (rot a 13)) W) from(zfs a 13 X (by omega)).mono fun _ _ h=>h.new);have y:=qwk (fun W:World=>show Calls Tryz.prog 80 #[.int .u32 a,.int .i64 22] W (zap (.int .u32 (rot a 22)) W) from(zfs a 22 X (by omega)).mono fun _ _ h=>h.new);have jt:(t:Int)<64:=by omega
   clear X ub uc ud Y uf ug ui V hr a1;have L:pI e f g i kt wt=IntKind.u32.wrap (IntKind.u32.wrap (IntKind.u32.wrap (IntKind.u32.wrap (i+bits .xor .u32 (bits .xor .u32 (rot e 6) (rot e 11)) (rot e 25))+bits .xor .u32 (bits .and .u32 e f) (bits .and .u32 (bits .xor .u32 (if IntKind.u32.signed=true then-1 else IntKind.u32.max) e) g))+kt)+wt):=rfl;have M:qI a D c=(bits .xor .u32 (bits .xor .u32 (rot a 2) (rot a 13)) (rot a 22)+bits .xor .u32 (bits .xor .u32 (bits .and .u32 a D) (bits .and .u32 a c)) (bits .and .u32 D c))%4294967296:=rfl;generalize rot e 6=r6 at*;generalize rot e 11=a6 at*;generalize rot e 25=a9 at*;generalize rot a 2=r2 at*;generalize rot a 13=a7 at*;generalize rot a 22=a8 at*;obtain⟨x1,q1⟩:∃x,bits .xor .u32 r6 a6=x:=⟨_,rfl⟩;obtain⟨x2,q2⟩:∃x,bits .xor .u32 x1 a9=x:=⟨_,rfl⟩;obtain⟨x3,q3⟩:∃x,IntKind.u32.wrap (i+x2)=x:=⟨_,rfl⟩;obtain⟨y1,q4⟩:∃x,bits .and .u32 e f=x:=⟨_,rfl⟩;obtain⟨y2,q5⟩:∃x,bits .xor .u32 (if IntKind.u32.signed=true then-1 else IntKind.u32.max) e=x:=⟨_,rfl⟩;obtain⟨y3,q6⟩:∃x,bits .and .u32 y2 g=x:=⟨_,rfl⟩;obtain⟨y4,q7⟩:∃x,bits .xor .u32 y1 y3=x:=⟨_,rfl⟩;obtain⟨x4,q8⟩:∃x,IntKind.u32.wrap (x3+y4)=x:=⟨_,rfl⟩;obtain⟨x5,q9⟩:∃x,IntKind.u32.wrap (x4+kt)=x:=⟨_,rfl⟩;obtain⟨p,q⟩:∃x,IntKind.u32.wrap (x5+wt)=x:=⟨_,rfl⟩;rw[q1,q2,q3,q4,q5,q6,q7,q8,q9,q] at L;obtain⟨z1,v1⟩:∃x,bits .xor .u32 r2 a7=x:=⟨_,rfl⟩;obtain⟨z2,v2⟩:∃x,bits .xor .u32 z1 a8=x:=⟨_,rfl⟩;obtain⟨z3,v3⟩:∃x,bits .and .u32 a D=x:=⟨_,rfl⟩;obtain⟨z4,v4⟩:∃x,bits .and .u32 a c=x:=⟨_,rfl⟩;obtain⟨z5,v5⟩:∃x,bits .xor .u32 z3 z4=x:=⟨_,rfl⟩;obtain⟨z6,v6⟩:∃x,bits .and .u32 D c=x:=⟨_,rfl⟩;obtain⟨z7,v7⟩:∃x,bits .xor .u32 z5 z6=x:=⟨_,rfl⟩;rw[v1,v2,v3,v4,v5,v6,v7] at M;have l:=I.out;rw[show qju kt wt (a,D,c,d,e,f,g,i)=((pI e f g i kt wt+qI a D c)%4294967296,a,D,c,(d+pI e f g i kt wt)%4294967296,e,f,g) from rfl,L,M] at l;have O:=qwk l;have QP:=qwk (qtc q1 (qtc q2 (qtc q3 (qtc q4 (qtc q5 (qtc q6 (qtc q7 (qtc q8 (qtc q9 q)))))))));have QV:=qwk (qtc v1 (qtc v2 (qtc v3 (qtc v4 (qtc v5 (qtc v6 v7))))));clear l L M I q1 q2 q3 q4 q5 q6 q7 q8 q9 q v1 v2 v3 v4 v5 v6 v7;go_wp2_with fail
   refine zav New [(true,0),(true,1),(true,3),(true,6),(true,10),(true,11),(true,12),(true,13),(true,14),(true,15),(true,16),(true,17),(true,19),(true,20),(true,21),(true,23),(true,24),(true,25),(false,2),(false,4),(true,5),(false,7),(true,8),(true,9),(true,18),(true,22),(true,26),(true,27)]
    qw4 qw5 (by kernel_rfl) (by kernel_rfl) (by kernel_rfl) (by kernel_rfl) ?_
   have n:=qw5 b (qw6 wr);repeat(first
    |(refine zas rfl rfl (v:=?_) (fun W E=>?_) ?_;rotate_left;(obtain⟨o0,o1⟩:=F2.out W (qw5 n E);obtain⟨q1,q2,q3,q4,q5,q6,q7,q8,q9,q⟩:=QP.out;go_simp<;> with_reducible rfl);simp only[Act.put,qta,qs1,qtb])
    |(refine za7 rfl rfl (fun K hK=>?_);go_simp
      first
      |(with_reducible refine(R.out _).mono ?_)
      |(with_reducible refine(z.out _).mono ?_)
      |(with_reducible refine(A.out _).mono ?_)
      rintro e9 w9 ⟨rfl,c9⟩;refine hK _ _ c9 ?_;clear hK;replace n:=qw5 n c9))
   refine zdr ?_;go_wp2_with fail
   (with_reducible refine(Q.out _).mono ?_)
   rintro e9 w2 ⟨rfl,c2⟩;replace n:=qw5 n c2;go_wp2_with fail
   (with_reducible refine(u.out _).mono ?_)
   rintro e9 w3 ⟨rfl,c3⟩;replace n:=qw5 n c3;obtain⟨v1,v2,v3,v4,v5,v6,v7⟩:=QV.out;go_wp2_with fail
   (with_reducible refine(y.out _).mono ?_)
   rintro e9 w4 ⟨rfl,c4⟩;replace n:=qw5 n c4;clear R z A Q u y F2 c2 c3 c4 QP QV;go_wp2
   go_roundw
   case rel=>
    refine⟨t+1,by omega,by go_num,?_⟩;rw[O.out];exact⟨rfl,rfl,rfl,rfl,rfl,rfl,rfl,rfl,n⟩
   case measure=>simp[intOf];omega
  ·have G:t=64:=by omega
   have HT:=qwk (show qjv s (zfv (zc2 B) s t)=z38 s B by rw[G];rfl);obtain⟨x0,x1,x2,x3,x4,x5,x6,x7⟩:=F.out wr b;have R3:=qwk (H.out.below b H.out.lt);have bE:=qxb (qw5 a0.out b) (zbv (g:=w.heap.size+1+1) wr (zb1 (qjv s (zfv (zc2 B) s t)))) (by omega);have BE:=qwk bE;generalize zfv (zc2 B) s t=r at*;have m:(Tryz.prog.info? 98).map (·.size)=some (zb1 (qjv s r)).size:=by rw[show(zb1 (qjv s r)).size=8 from rfl];kernel_rfl
   have P:=qwk m;clear G m bE FK F HS SU SL;go_wp2_with (refine wpList_store_row rfl 98 (.tmp 4) (.tmp 130) rfl (w.heap.size+1+1) (zb1 (qjv s r)) rfl rfl _ _ (za1 R3.out) P.out rfl (zj0 _) ?_)
   exact bodyPost_ret (results_cell_row rfl _ _ (w.heap.size+1+1) _ (zb1 (qjv s r)) (0,0) _ rfl (za1 (zbi R3.out _)) (show Tryz.prog.underlying 98=some (.array 8 97) by kernel_rfl) rfl P.out) rfl ⟨by rw[HT.out],BE.out⟩
theorem zdt{α:Type}{l:List α}{k:Nat}(d:α)(h:k<l.length):l.getD k d∈l:=by rw[qsh,qqt h];exact qrf h
theorem qfp{x y:zab}(a:∀z∈x.2.2.1,z<256)(c:∀z∈y.2.2.1,z<256):
 (!(x.1==y.1&&x.2.1==y.2.1&&(zaf x.2.2.1).toList==(zaf y.2.2.1).toList&&x.2.2.2.1==y.2.2.2.1&&x.2.2.2.2==y.2.2.2.2))=decide (x≠y):=by
 rw[zg2 a c];obtain⟨b,n,s,p,q⟩:=x;obtain⟨d,e,h,f,g⟩:=y;rw[qrd];simp[Prod.ext_iff,or_assoc]
theorem z4x{w:World}{A:Option Addr}{n c:Nat}{l:List zab}{C:Option Addr}{g c2:Nat}{l2:List zab}(h:Reads w w.heap.size 5 A n (recs zay l))(M:Reads w w.heap.size 5 C g (recs zay l2))(hn:n<=9223372036854775807)(a0:g<=9223372036854775807)
 (h8:∀x∈l,∀z∈x.2.2.1,z<256)(B:∀x∈l2,∀z∈x.2.2.1,z<256):
 Calls Tryz.prog 56 #[.slice A n c,.slice C g c2] w (DrewPost (.bool (decide (l=l2))) w):=by
 obtain rfl:=h.lenCell;obtain rfl:=M.lenCell;by_cases u:l.length=l2.length
 ·have L:((l.length:Int) != (l2.length:Int))=false:=by simp;omega
  have D:=qwk (fun(k:Nat) (hk:k<l.length) (f:l.getD k (false,0,[],0,0)≠l2.getD k (false,0,[],0,0))=>show decide (l=l2)=false from decide_eq_false (fun e=>f (by rw[e])));have E:=qwk (fun(f:l.take l.length=l2.take l.length)=>show decide (l=l2)=true from decide_eq_true (by rw[quw] at f;rw[f,u,quw]));generalize decide (l=l2)=O at*;have T:=qwk u;clear u;go_enter Tryz.func56,Tryz.ntmps56
  go_wp2
  clear L;go_loopw [5] (fun i wr=>∃k q:Nat,i= .int .i64 (k:Int)/\k<=l.length/\wr=w.drewN q/\Hid (l.take k=l2.take k)) (fun i _=>l.length-(intOf i).toNat)
  case atStart=>exact⟨0,0,rfl,by omega,rfl,qwk (by simp)⟩
  case round=>
   obtain⟨k,q,rfl,hk,rfl,H⟩:=hrel;by_cases a:k<l.length
   ·have d:k<l2.length:=by rw[<-T.out];exact a
    obtain⟨ad,rfl,_,Y,Z,c2,c3,c4⟩:=h.cell5 a;obtain⟨X,rfl,_,d0,d1,d2,d3,d4⟩:=M.cell5 d;have F:=qwk (D.out k a);have G:=qwk (fun(f:l.getD k (false,0,[],0,0)=l2.getD k (false,0,[],0,0))=>show l.take (k+1)=l2.take (k+1) by rw[zac l k (false,0,[],0,0) a,zac l2 k (false,0,[],0,0) d,H.out,f])
    have i1:(k:Int)<(l.length:Int):=by omega
    have i2:(k:Int)<(l2.length:Int):=by omega
    have j:=qwk (qfp (h8 _ (zdt (false,0,[],0,0) a)) (B _ (zdt (false,0,[],0,0) d)));clear H;generalize l.getD k (false,0,[],0,0)=x1 at*;generalize l2.getD k (false,0,[],0,0)=x2 at*;obtain⟨J,P,Q,o,r⟩:=x1;obtain⟨K,g,S,p,t⟩:=x2;simp only at Y Z c2 c3 c4 d0 d1 d2 d3 d4;have I:=fun W=>qkt (b:=J) (b':=K) (n:=P) (n':=g) (s:=zaf Q) (s':=zaf S) (x:=o) (x':=p) (y:=r) (y':=t) W
    have j:=j.out;simp only at j;rw[j] at I;clear j;generalize N:decide ((J,P,Q,o,r)≠(K,g,S,p,t))=R at I;have v:=qwk N;clear N;have U:=qwk (fun(f:R=true)=>F.out (of_decide_eq_true (v.out.trans f)));have V:=qwk (fun(f:R=false)=>G.out (qt9.1 (of_decide_eq_false (v.out.trans f))));clear F G v;go_wp2
    go_quiet (fail)
    cases R with
    |true=>
     have m:=qwk (U.out rfl);go_wp2
     go_ret
     exact⟨by rw[m.out];rfl,_,rfl⟩
    |false=>
     have m:=qwk (V.out rfl);go_wp2
     go_roundw
     case rel=>exact⟨k+1,_,by go_num,by omega,rfl,m⟩
     case measure=>simp[intOf];omega
   ·obtain rfl:k=l.length:=by omega
    have m:=qwk (E.out H.out);clear D E H;go_wp2
    go_ret
    exact⟨by rw[m.out];rfl,q,rfl⟩
 ·have L:((l.length:Int) != (l2.length:Int))=true:=by simp;omega
  have e2:=qwk (show decide (l=l2)=false from decide_eq_false (fun e=>u (by rw[e])));generalize decide (l=l2)=O at*;go_enter Tryz.func56,Tryz.ntmps56
  go_wp2
  go_ret
  exact⟨by rw[e2.out];rfl,0,rfl⟩
end Go.Proofs.Y
namespace Go.Hm
open Go Go.RowKit
theorem zqx{x y:Int}:zja x y<=0↔x<=y:=by
 unfold zja;split
 ·omega
 ·split<;> omega
theorem cmpI_zero{x y:Int}:zja x y=0↔x=y:=by
 unfold zja;split
 ·omega
 ·split<;> omega
theorem zpc(x y:Int):zja y x= -zja x y:=by
 unfold zja;by_cases a:x<y
 ·rw[if_pos a,if_neg (by omega),if_pos a];rfl
 ·by_cases b:y<x
  ·rw[if_pos b,if_neg a,if_pos b]
  ·rw[if_neg b,if_neg a,if_neg a,if_neg b];rfl
theorem qor(a b c:Int):orI [a,b,c]=if a=0 then(if b=0 then c else b) else a:=by simp only[orI];by_cases d:a=0<;> by_cases e:b=0<;> by_cases f:c=0<;> simp[d,e,f]
theorem qgf(x y u v:Int):cmpP u v x y= -cmpP x y u v:=by
 unfold cmpP;rw[zpc (x*x+y*y),zpc x,zpc y,qor,qor];by_cases a:zja (x*x+y*y) (u*u+v*v)=0
 ·rw[if_pos (by omega),if_pos a]
  by_cases b:zja x u=0
  ·rw[if_pos (by omega),if_pos b]
  ·rw[if_neg (by omega),if_neg b]
 ·rw[if_neg (by omega),if_neg a]
theorem qah{x y u v:Int}:cmpP x y u v=0↔x=u/\y=v:=by
 unfold cmpP;rw[qor];constructor
 ·intro h
  split at h
  ·split at h
   ·rename_i a b
    exact⟨cmpI_zero.1 b,cmpI_zero.1 h⟩
   ·rename_i a b
    exact absurd h b
  ·rename_i a
   exact absurd h a
 ·rintro⟨rfl,rfl⟩
  simp[qag]
theorem qai{x y u v:Int}:cmpP x y u v<=0↔x*x+y*y<u*u+v*v\/(x*x+y*y=u*u+v*v/\(x<u\/(x=u/\y<=v))):=by
 unfold cmpP;rw[qor];generalize x*x+y*y=n;generalize u*u+v*v=m;have a:= @zqx n m;have b:= @cmpI_zero n m;have c:= @zqx x u;have d:= @cmpI_zero x u;have e:= @zqx y v;split
 ·split
  ·omega
  ·omega
 ·omega
open Go Go.RowKit
def zq6(l:List za2):Prop:=l.length<=64/\(∀x∈l,0<x.1.length/\x.1.length<=100/\0<=x.2.1/\x.2.1<=3)/\(l.map (·.1)).Nodup
theorem zte:∀(l a:List za2),zhe a l=0↔(∀x∈l,0<x.1.length/\x.1.length<=100/\0<=x.2.1/\x.2.1<=3)/\(l.map (·.1)).Nodup/\ ∀x∈l,x.1∉a.map (·.1)
 | [],a=>by simp[zhe]
 |c::l,a=>by
  have key:zmo a c.1 c.2.1=0↔(0<c.1.length/\c.1.length<=100/\0<=c.2.1/\c.2.1<=3)/\c.1∉a.map (·.1):=by
   unfold zmo;by_cases h:zns a c.1
   ·rw[if_pos h]
    refine⟨fun b=>by omega,fun b=>?_⟩;rcases h with h|h|h
    ·omega
    ·omega
    ·exact absurd h b.2
   ·rw[if_neg h]
    by_cases d:0<=c.2.1/\c.2.1<=3
    ·rw[if_pos d]
     refine⟨fun _=>⟨⟨?_,?_,d.1,d.2⟩,fun b=>h (.inr (.inr b))⟩,fun _=>rfl⟩
     ·have: ¬c.1.length=0:=fun b=>h (.inl b)
      omega
     ·have: ¬100<c.1.length:=fun b=>h (.inr (.inl b))
      omega
    ·rw[if_neg d]
     exact⟨fun b=>by omega,fun b=>by omega⟩
  have o:=zte l (a++[c]);have e:zhe a (c::l)=0↔zmo a c.1 c.2.1=0/\zhe (a++[c]) l=0:=by
   rw[zhe];split
   ·rename_i h;exact⟨fun b=>⟨h,b⟩,fun b=>b.2⟩
   ·rename_i h;exact⟨fun b=>absurd b h,fun b=>absurd b.1 h⟩
  rw[e,key,o];simp only[List.forall_mem_cons,qrj,List.nodup_cons,que,qrk,qr5,qr6];constructor
  ·rintro⟨⟨i,d⟩,j,k,g⟩
   refine⟨⟨i,j⟩,⟨fun b=>?_,k⟩,d,fun x f b=>g x f (.inl b)⟩;obtain⟨x,f,m⟩:=qqu.1 b;exact g x f (.inr m)
  ·rintro⟨⟨i,j⟩,⟨k,g⟩,d,n⟩
   refine⟨⟨i,d⟩,j,g,fun x f b=>?_⟩;rcases b with b|b
   ·exact n x f b
   ·exact k (qqu.2 ⟨x,f,b⟩)
theorem zdv(l:List za2):zcz l=0↔zq6 l:=by
 unfold zcz zq6;split
 ·exact⟨fun a=>by omega,fun a=>by omega⟩
 ·rename_i h
  rw[zte];simp only[qrk,qur,not_false_eq_true,implies_true,and_true];exact⟨fun a=>⟨by omega,a⟩,fun a=>a.2⟩
end Go.Hm
