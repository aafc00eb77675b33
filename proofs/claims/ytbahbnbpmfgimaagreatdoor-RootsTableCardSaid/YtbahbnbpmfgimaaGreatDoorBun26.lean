import Derived.Lib.SmallJoins
import Derived.Test.YtbahbnbpmfgimaaGreatDoorBun25
set_option maxHeartbeats 2000000
set_option maxRecDepth 100000
namespace Go.Hm
open Go Go.RowKit
theorem zbw{w j l:World}{g:Nat}{V e:Value}(b:Turns (g::zbt V) w j)(c:e.ownBlock=V.ownBlock\/ ∃h,e.ownBlock=some h/\w.heap.size<=h)(d:Turns (g::zbt e) j l):Turns (g::zbt V) w l:=
 ⟨d.os.trans b.os,d.tape.trans b.tape,d.output.trans b.output,qqs b.size d.size,fun k i f=>by
  refine(d.block k (qqv i b.size) (fun a=>?_)).trans (b.block k i f);rcases qsm.1 a with rfl|a
  ·exact f (by simp)
  ·rcases c with c|⟨h,c,m⟩
   ·refine f (quq _ ?_)
    unfold zbt at a⊢;rwa[c] at a
   ·unfold zbt at a
    rw[c] at a;simp at a;omega⟩
theorem zgq{w d:World}{V c b:Value}(g:w.heap.size<=d.heap.size)(e:c.ownBlock=V.ownBlock\/ ∃h,c.ownBlock=some h/\w.heap.size<=h)(a:b.ownBlock=c.ownBlock\/ ∃h,b.ownBlock=some h/\d.heap.size<=h):b.ownBlock=V.ownBlock\/ ∃h,b.ownBlock=some h/\w.heap.size<=h:=by
 rcases a with a|⟨h,a,f⟩
 ·rw[a];exact e
 ·exact .inr ⟨h,a,qqs g f⟩
theorem zue{w:World}{g x:Nat}{V c:Value}(d:x∉g::zbt V)(f:x<w.heap.size)(b:c.ownBlock=V.ownBlock\/ ∃h,c.ownBlock=some h/\w.heap.size<=h):x∉g::zbt c:=fun a=>by
 rcases qsm.1 a with rfl|a
 ·exact d (by simp)
 ·rcases b with b|⟨h,b,e⟩
  ·refine d (quq _ ?_)
   unfold zbt at a⊢;rwa[b] at a
  ·unfold zbt at a
   rw[b] at a;simp at a;omega
def zi6(d:List Nat):List Value:=(List.range 32).map fun i=> .int .u8 ((d.getD i 0:Nat):Int)
theorem zft(d:List Nat):(zi6 d).length=32:=by simp[zi6]
theorem zzd{d:List Nat}(h:d.length=32):zi6 d=zar .u8 d:=by
 unfold zi6 zar;refine qre (by simp[h]) fun i c a=>?_
 have b:i<d.length:=by simpa using a
 simp[List.getD_eq_getElem?_getD,b]
def dV(d:List Nat):Value:= .agg (zar .u8 d).toArray
theorem zlb(s:List Nat)(L:List (List Nat)):zla (zey s L)=dV (zca s L):=by unfold zla dV;rw[z8f]
structure LeafIn(w:World)(A:Option Addr)(L:List (List Nat))(T:List Nat):Prop where
 row:Reads w w.heap.size 32 A L.length (recs zi6 L)
 digs:Digs L
 far:0<L.length-> ∀ad,A=some ad->ad.block∉T
theorem LeafIn.turn{w w':World}{A:Option Addr}{L:List (List Nat)}{T T':List Nat}(h:LeafIn w A L T)(k:Turns T w w')(i:∀x,x<w.heap.size->x∉T->x∉T'):LeafIn w' A L T':=by
 refine⟨⟨h.row.1,fun c=>?_⟩,h.digs,fun c b f=>?_⟩
 ·obtain⟨b,e,d,l⟩:=h.row.2 c
  refine⟨b,e,qqv d k.size,fun j u m=>?_⟩;rw[World.cell?_of_block (a:=b.add j) (k.block (b.add j).block (by rw[zam];exact d) (by rw[zam];exact h.far c b e))];exact l j u m
 ·obtain⟨g,e,d,_⟩:=h.row.2 c
  rw[f] at e;injection e with e;subst e;exact i _ d (h.far c b f)
theorem LeafIn.take{w:World}{A:Option Addr}{L:List (List Nat)}{T:List Nat}(h:LeafIn w A L T){k:Nat}(a:k<=L.length):LeafIn w A (L.take k) T:=by
 have b:(L.take k).length=k:=by rw[qqx];omega
 refine⟨?_,h.digs.take k,fun c=>h.far (by omega)⟩;have:=h.row.take a;rw[zjd (sz:=32) zft L k a] at this;rwa[b]
theorem LeafIn.drop{w:World}{A:Option Addr}{L:List (List Nat)}{T:List Nat}(h:LeafIn w A L T){k c:Nat}(d:k<=L.length)(f:L.length<=c):LeafIn w (if c=k then A else A.map (·.add (k*32))) (L.drop k) T:=by
 have g:(L.drop k).length=L.length-k:=by rw[qqw]
 refine⟨?_,h.digs.drop k,fun i e b=>?_⟩
 ·have:=h.row.cut d f
  rw[zpz (sz:=32) zft L k d] at this;rwa[g]
 ·split at b
  ·exact h.far (by omega) e b
  ·cases A with
   |none=>cases b
   |some a=>
    simp only[qtw,qqh] at b;rw[<-b,zam];exact h.far (by omega) a rfl
end Go.Hm
namespace Go.Proofs.Y
open Go.RowKit Go.Hm
theorem LogOf.own{t:TypeId}{w:World}{base g B:Nat}{V:Value}{L:List (List Nat)}(h:LogOf t w base g V L)(b:B<=base)(c:B<=g):∀x∈g::zbt V,B<=x:=by
 intro x a;rcases qsm.1 a with rfl|a
 ·exact c
 ·exact qqs b (h.ge x a).1
theorem LogOf.noB{t:TypeId}(f:t≠5){w:World}{base g:Nat}{V:Value}{L:List (List Nat)}(h:LogOf t w base g V L):∀x∈g::zbt V,x<w.heap.size-> ∀cs,¬Blk w x 5 cs:=by
 obtain⟨A,n,c,D,rfl,d,e,_⟩:=h;intro x a _ cs b;rcases qsm.1 a with rfl|a
 ·exact qw2 d b f rfl
 ·exact zfo e b (by decide) a
theorem LogOf.notT{t u:TypeId}{w:World}{base g x:Nat}{V:Value}{L:List (List Nat)}{cs:Array Value}(h:LogOf t w base g V L)(b:Blk w x u cs)(d:t≠u)(e:24≠u):x∉g::zbt V:=fun a=>by
 obtain⟨A,n,c,D,rfl,f,i,_⟩:=h;rcases qsm.1 a with rfl|a
 ·exact qw2 f b d rfl
 ·exact zfo i b e a
abbrev tL:TypeId:=86
end Go.Proofs.Y
namespace Go.Hm
open Go Go.RowKit
theorem zai(w:World)(o:Obj):New w (w.alloc o):=(qwd _ _).alloc (qq0 _) o
theorem Reads.litM3(w:World)(e:TypeId)(a:Nat × Nat)(cs:Array Value)(n:Nat)(xs:List Value)(h:cs.toList=xs)(b:n=xs.length):Reads (w.alloc (.cells cs e a)) (w.alloc (.cells cs e a)).heap.size 1 (some ⟨w.heap.size,0,none⟩) n xs:=by subst b;refine⟨by simp,fun _=>⟨_,rfl,by simp,?_⟩⟩;have:=qwe (heap_alloc_new w (.cells cs e a));rwa[h] at this
abbrev qxm:=@Reads.litM3
def u64N_tren(k:Int):Nat:=(k%18446744073709551616).toNat
def leafP(k n:Int)(d:List Nat):List (List Nat):=[low (u64N_tren k) 8,low (u64N_tren n) 8,d]
theorem zhs{w w':World}{T:List Nat}{s n:Nat}{A:Option Addr}{xs:List Value}(h:Reads w w.heap.size s A n xs)(k:Turns T w w')(d:0<n-> ∀ad,A=some ad->ad.block∉T):Reads w' w'.heap.size s A n xs:=
 ⟨h.1,fun c=>by obtain⟨ad,e,b,f⟩:=h.2 c;refine⟨ad,e,qqv b k.size,fun j u g=>?_⟩;rw[World.cell?_of_block (a:=ad.add j) (k.block (ad.add j).block (by rw[zam];exact b) (by rw[zam];exact d c ad e))];exact f j u g⟩
end Go.Hm
namespace Go.Proofs.Y
open Go.RowKit Go.Hm
theorem zdu{t:TypeId}{w c:World}{base g:Nat}{V a:Value}{L:List (List Nat)}(q:g<w.heap.size)(f:LogOf t c base g a L)(i:a.ownBlock=V.ownBlock\/ ∃h,a.ownBlock=some h/\w.heap.size<=h)(m:Turns (g::zbt V) w c){d:Array Value}(e:Blk c w.heap.size 35 d)(cs:Array Value):
 ∃a,LogOf t (c.setRow w.heap.size cs) base g a L/\(a.ownBlock=V.ownBlock\/ ∃h,a.ownBlock=some h/\w.heap.size<=h)/\Turns (g::zbt V) w (c.setRow w.heap.size cs):=by
 refine⟨a,f.turn (T:=[w.heap.size]) (qxf (zbv (g:=w.heap.size) c cs) (by simp)) (by simp;omega) ?_ ?_,i,?_⟩
 ·intro x b
  simp at b;subst b;obtain⟨n,r,p,o,j,_,l,_⟩:=f;rw[j];exact l.blk_ne e (by decide)
 ·intro x b _ cs k
  simp at b;subst b;exact qw2 e k (by decide) rfl
 ·exact qxh ((m.more (T':=w.heap.size::g::zbt V) (by intro x b;simp at b⊢;simp[b])).trans (qxf (zbv (g:=w.heap.size) c cs) (by simp))) (qq0 _)
theorem z1p{w:World}{base g:Nat}{V:Value}{L:List (List Nat)}(X:LogOf tL w base g V L)(Z:base<=w.heap.size)(Y:L.length<=10000000){s d:List Nat}{k n:Int}{A:Option Addr}{c:Nat}(G:∀x∈s,x<256)(hs:s.length<=140737488351232)(hd:Reads w w.heap.size 1 A d.length (zar .u8 d))(F:∀x∈d,x<256)(a5:d.length<=9000000)(a0:d.length<=c)(hc:c<=9223372036854775807)(hC:∀w',Turns (g::zbt V) w w'->ConstIn w'):
 Calls Tryz.prog 34 #[.pointer (some ⟨g,0,none⟩),.string (zaf s),.int .i64 k,.int .i64 n,.slice A d.length c] w (zf3 tL (zla (zey s (leafP k n d))) base g V (L++(za9 s (leafP k n d)).toList) w):=by
 have S:=zai w (.cells (za5 .u8 zau).toArray 35);have J:=qwk (qw1 w 35 (za5 .u8 zau).toArray);have HL:=qwk X;have HD:=qwk hd;have H8:=qwk F;have S8:=qwk G;have HC:=qwk hC;have a1:g<w.heap.size:=X.lt;obtain⟨W0,v⟩:∃W,W=w.alloc (.cells (za5 .u8 zau).toArray 35):=⟨_,rfl⟩;have U:=qwk (fun(x:Nat) (hx:x<=18446744073709551615) (W:World)=>z8t (w:=W) (A:=none) (n:=0) (c:=0) (l:=[]) x qwy (by omega));have e1:IntKind.u64.wrap k=((u64N_tren k:Nat):Int):=by unfold u64N_tren;rw[qwp];omega
 have e2:IntKind.u64.wrap n=((u64N_tren n:Nat):Int):=by unfold u64N_tren;rw[qwp];omega
 have e3:k%18446744073709551616=((u64N_tren k:Nat):Int):=by unfold u64N_tren;omega
 have e4:n%18446744073709551616=((u64N_tren n:Nat):Int):=by unfold u64N_tren;omega
 have h3:u64N_tren k<=18446744073709551615:=by unfold u64N_tren;omega
 have h4:u64N_tren n<=18446744073709551615:=by unfold u64N_tren;omega
 have LP:=qwk (show leafP k n d=[low (u64N_tren k) 8,low (u64N_tren n) 8,d] from rfl);generalize leafP k n d=O at*;generalize u64N_tren k=q at*;generalize u64N_tren n=r at*;rw[<-v] at S J;have Q:=qwk v;have C0:=qwk S;clear hd F G X S v hC;go_enter Tryz.func34,Tryz.ntmps34
 go_wp2_with fail
 refine(U.out q h3 _).mono ?_;rintro e w1 ⟨j,n1,a,rfl,I,C⟩;have C:New W0 w1:=by rw[Q.out];exact C
 have I:Own w1 W0.heap.size 5 (.slice j n1 a) (zar .u8 (low q 8)):=by rw[Q.out];exact I
 obtain rfl:n1=8:=by have:=I.len;rwa[zaa,za0] at this
 have K:=qwk I;have B1:=qwk (qw5 C0.out C);have G1:=qwk (J.out.below C J.out.lt);clear I C Q C0 J e1 e3;go_wp2_with fail
 refine(U.out r h4 _).mono ?_;rintro e B ⟨m,n2,b,rfl,z,M⟩;have z:Own B w1.heap.size 5 (.slice m n2 b) (zar .u8 (low r 8)):=z;obtain rfl:n2=8:=by have:=z.len;rwa[zaa,za0] at this
 have B2:=qwk (qw5 B1.out M);have G2:=qwk (G1.out.below M G1.out.lt);have K:=qwk (K.out.later M);have rr:RowsAt (B.alloc (.cells #[.slice j 8 a,.slice m 8 b,.slice A d.length c] 24)) (some ⟨B.heap.size,0,none⟩) 3 3 [(j,a,low q 8),(m,b,low r 8),(A,c,d)]:=by
  have l1:=za0 q 8;have l2:=za0 r 8;refine⟨qxm B _ (0,0) _ 3 _ (by simp[recs,zf6,l1,l2]) (by simp[recs,zf6]),fun x hx=>?_,qq0 _⟩;simp only[qsm,qur,or_false] at hx;have q1:=K.out.cap;have q2:=z.cap;simp only[maxLen] at q1 q2;have T:=zai B (.cells #[.slice j 8 a,.slice m 8 b,.slice A d.length c] 24);rcases hx with rfl|rfl|rfl
  ·exact⟨by show Reads _ _ 1 j (low q 8).length _;rw[l1];exact qxj K.out.reads T,by show(low q 8).length<=a;omega,by show a<=_;omega⟩
  ·exact⟨by show Reads _ _ 1 m (low r 8).length _;rw[l2];exact qxj z.reads T,by show(low r 8).length<=b;omega,by show b<=_;omega⟩
  ·exact⟨qxj HD.out (qw5 B2.out T),a0,hc⟩
 have E:bytesOf [(j,a,low q 8),(m,b,low r 8),(A,c,d)]=O:=by rw[LP.out];rfl
 have D:=qw5 B2.out (zai B (.cells #[.slice j 8 a,.slice m 8 b,.slice A d.length c] 24));have a2:∀p∈bytesOf [(j,a,low q 8),(m,b,low r 8),(A,c,d)],∀x∈p,x<256:=by
  intro p hp;simp only[bytesOf,qrj,qrk,qsm,qur,or_false] at hp;rcases hp with rfl|rfl|rfl
  ·exact zhp q 8
  ·exact zhp r 8
  ·exact H8.out
 have a3:zik (bytesOf [(j,a,low q 8),(m,b,low r 8),(A,c,d)])<=9900000:=by simp[bytesOf,zik,za0];omega
 have lh:=zl5 (HL.out.new D) (qqs Z D.size) Y rr (by omega) S8.out hs a3 a2 (fun w' k=>HC.out w' ((qxe D).trans k));rw[E] at lh;have LH:=qwk lh;have P:=qwk D;have G3:=qwk (G2.out.alloc (.cells #[.slice j 8 a,.slice m 8 b,.slice A d.length c] 24));clear rr E D lh z M e2 e4;go_wp2_with fail
 refine LH.out.mono ?_;rintro e w4 ⟨rfl,V',l4,a4,t4⟩;obtain⟨o,f⟩:∃o,o=(za5 .u8 (zey s O)).toArray:=⟨_,rfl⟩;have y:zla (zey s O)= .agg o:=by rw[f];rfl
 have HV:=qwk y;have i:=zl3 s O;have t:(Tryz.prog.info? 35).map (·.size)=some o.size:=by rw[f];exact qdu i
 have R:(za5 .u8 zau).toArray.size=o.size:=by rw[f];simp[za5,zau,i]
 have u:o.all (·.oneCell')=true:=by rw[f];exact zfb _ _
 have N:=G3.out.touch t4 ((HL.out.new P.out).notT G3.out (by decide) (by decide));have PS:=qwk (zdu a1 l4 (a4.imp id fun⟨h,h1,h2⟩=>⟨h,h1,qqs P.out.size h2⟩) ((qxe P.out).trans t4) N o);have H:=qwk (qtc (za1 N) (zbi N o));have t:=qwk t;have R:=qwk R;have u:=qwk u;rw[y];clear f y l4 a4 t4 N i LH;go_wp2_with (refine wpList_store_row rfl 35 (.tmp 10) (.tmp 21) rfl w.heap.size o rfl rfl _ _ H.out.1 t.out R.out u.out ?_)
 exact bodyPost_ret (results_cell_row rfl _ _ w.heap.size _ o (0,0) _ rfl H.out.2 zct rfl t.out) rfl ⟨by rw[HV.out],PS.out⟩
end Go.Proofs.Y
namespace Go.Hm
open Go Go.RowKit
theorem zgr{w:World}{g:Nat}{t:TypeId}{cs:Array Value}{l:List Nat}(h:Blk w g t cs)(a:cs.toList=zar .u8 l):Reads w w.heap.size 1 (some ⟨g,0,none⟩) l.length (zar .u8 l):=by
 refine⟨by simp[zar],fun _=>⟨_,rfl,h.lt,fun j u b=>?_⟩⟩;have e:(⟨g,0,none⟩:Addr).add j=⟨g,j,none⟩:=by unfold Addr.add;split<;> simp_all
 rw[e,h.cell,<-b,<-a,Array.getElem?_toList]
end Go.Hm
namespace Go.Proofs.Y
open Go.RowKit Go.Hm
theorem qes{w:World}{base g:Nat}{V:Value}{L:List (List Nat)}(J:LogOf tL w base g V L)(a4:base<=w.heap.size)(a2:L.length<=10000000){a b:List Nat}(T:zna a)(U:zna b)(hC:∀w',Turns (g::zbt V) w w'->ConstIn w'):
 Calls Tryz.prog 61 #[.pointer (some ⟨g,0,none⟩),dV a,dV b] w (zf3 tL (dV (zca zcy [a,b])) base g V (L++[zb2 zcy [a,b]]) w):=by
 obtain⟨o,C⟩:∃c,c=(zar .u8 a).toArray:=⟨_,rfl⟩;obtain⟨u,D⟩:∃c,c=(zar .u8 b).toArray:=⟨_,rfl⟩;have O:dV a= .agg o:=by rw[C];rfl
 have P:dV b= .agg u:=by rw[D];rfl
 obtain⟨i,f⟩:∃W,W=((w.alloc (.cells o 35)).alloc (.cells u 35)).alloc (.cells (za5 .u8 zau).toArray 35):=⟨_,rfl⟩;have z1:(w.alloc (.cells o 35)).heap.size=w.heap.size+1:=by simp
 have z2:((w.alloc (.cells o 35)).alloc (.cells u 35)).heap.size=w.heap.size+2:=by simp
 have Y:i.heap.size=w.heap.size+3:=by rw[f];simp
 have b3:New w i:=by rw[f];exact qw5 (qw5 (zai _ _) (zai _ _)) (zai _ _)
 have ga:Blk i w.heap.size 35 o:=by rw[f];exact((qw1 w _ o).alloc _).alloc _
 have gb:Blk i (w.heap.size+1) 35 u:=by rw[f];have:=qw1 (w.alloc (.cells o 35)) 35 u;rw[z1] at this;exact this.alloc _
 have gr:Blk i (w.heap.size+2) 35 (za5 .u8 zau).toArray:=by rw[f];have:=qw1 ((w.alloc (.cells o 35)).alloc (.cells u 35)) 35 (za5 .u8 zau).toArray;rwa[z2] at this
 have a6:g<w.heap.size:=J.lt;have A:∀x∈g::zbt V,x<w.heap.size:=fun x d=>by
  rcases qsm.1 d with rfl|d
  ·exact a6
  ·exact(J.ge x d).2
 obtain⟨W4,t⟩:∃W,W=(i.alloc (.cells #[.slice (some ⟨w.heap.size,0,none⟩) 32 32,.slice (some ⟨w.heap.size+1,0,none⟩) 32 32] 24)).drew:=⟨_,rfl⟩;have l:New i W4:=by rw[t];exact qw5 (zai i _) (qw6 _)
 have rr:RowsAt W4 (some ⟨w.heap.size+3,0,none⟩) 2 2 [(some ⟨w.heap.size,0,none⟩,32,a),(some ⟨w.heap.size+1,0,none⟩,32,b)]:=by
  refine⟨?_,fun x d=>?_,qq0 _⟩
  ·rw[t,<-Y]
   exact qxm i _ (0,0) _ 2 _ (by simp[recs,zf6,T.1,U.1]) (by simp[recs,zf6])
  ·simp only[qsm,qur,or_false] at d
   rcases d with rfl|rfl
   ·exact⟨by show Reads _ _ 1 _ a.length _;exact qxj (zgr ga (by rw[C])) l,by show a.length<=32;rw[T.1];omega,by show(32:Nat)<=_;omega⟩
   ·exact⟨by show Reads _ _ 1 _ b.length _;exact qxj (zgr gb (by rw[D])) l,by show b.length<=32;rw[U.1];omega,by show(32:Nat)<=_;omega⟩
 have a3:bytesOf [((some ⟨w.heap.size,0,none⟩:Option Addr),32,a),(some ⟨w.heap.size+1,0,none⟩,32,b)]=[a,b]:=rfl;have M:∀p∈[a,b],∀x∈p,x<256:=by
  intro p hp;simp only[qsm,qur,or_false] at hp;rcases hp with rfl|rfl
  ·exact T.2
  ·exact U.2
 have N:zik [a,b]<=9900000:=by simp[zik,T.1,U.1]
 have j:=qw5 b3 l;have X:=zl5 (s:=zcy) (J.new j) (qqs a4 j.size) a2 rr (by omega) (by decide) (by decide) N M (fun w' k=>hC w' ((qxe j).trans k));rw[a3,zgd] at X;obtain⟨c,m⟩:∃c,c=(za5 .u8 (zey zcy [a,b])).toArray:=⟨_,rfl⟩;have E:zla (zey zcy [a,b])= .agg c:=by rw[m];rfl
 have z:dV (zca zcy [a,b])= .agg c:=by rw[<-zlb,E]
 have n:=zl3 zcy [a,b];have r:(Tryz.prog.info? 35).map (·.size)=some c.size:=by rw[m];exact qdu n
 have ZS:(za5 .u8 zau).toArray.size=c.size:=by rw[m];simp[za5,zau,n]
 have B:c.all (·.oneCell')=true:=by rw[m];exact zfb _ _
 rw[E] at X;rw[O,P,z];have LH:=qwk X;have r:=qwk r;have ZS:=qwk ZS;have B:=qwk B;have HL:=qwk J;have GR:=qwk (gr.below l gr.lt);have q:=qwk j;have Z:=qwk f;have a0:=qwk t;have G:=qwk A;have a1:=qwk Y;clear m E z n X N M rr l ga gb gr z1 z2 Y f t b3 j O P C D J A hC;go_enter Tryz.func61,Tryz.ntmps61
 go_wp2
 have F:=Z.out;refine zav (TurnsB w.heap.size (g::zbt V)) [(true,0),(true,1),(true,2),(false,3),(false,4),(false,5)]
  (TurnsB.refl _ _) TurnsB.trans (by kernel_rfl) (by kernel_rfl) (by kernel_rfl) (by kernel_rfl) ?_
 iterate 3 (
  refine zas rfl rfl (v:=?_) (fun W hW=>?_) ?_;rotate_left
  ·skip
   go_simp<;> with_reducible rfl
  simp only[Act.put,qta,qs1,qtb])
 have e3:((w.alloc (.cells o 35)).alloc (.cells u 35)).alloc (.cells (za5 .u8 zau).toArray 35)=i:=F.symm;rw[show(((w.alloc (.cells o 35)).alloc (.cells u 35)).alloc (.cells qxy 35)).drew=i.drew from by rw[F];rfl];clear e3 F;have Y:=a1.out;refine za7 rfl rfl (fun K y=>?_);go_simp
 have Q:=a0.out;refine y _ _ (.alloc _ (by show w.heap.size<=i.heap.size;omega)) ?_;clear y;rw[<-Q];clear Q;refine za7 rfl rfl (fun K y=>?_);go_simp
 refine LH.out.mono ?_;rintro e S ⟨rfl,H,l5,a5,R⟩;refine y _ _ (.of R q.out.size) ?_;clear y;have nT:w.heap.size+2∉g::zbt V:=fun d=>by have:=G.out _ d;omega
 have I:=GR.out.touch R nT;refine za7 rfl rfl (fun K y=>?_);refine wp_store_row 35 (.tmp 6) (.tmp 11) rfl (w.heap.size+2) c rfl rfl _ _ (za1 I) r.out ZS.out B.out ?_;refine y _ _ (.far (zbv (g:=w.heap.size+2) _ c) (by omega) (qqs q.out.size R.size)) ?_;clear y;refine zdr ?_;have G6:=qwk (zbi I c);have P6:Hid (∃H,LogOf tL (S.setRow (w.heap.size+2) c) base g H (L++[zb2 zcy [a,b]])/\(H.ownBlock=V.ownBlock\/ ∃h,H.ownBlock=some h/\w.heap.size<=h)/\Turns (g::zbt V) w (S.setRow (w.heap.size+2) c)):=qwk (by
  have tt:Turns [w.heap.size+2] S (S.setRow (w.heap.size+2) c):=qxf (zbv (g:=w.heap.size+2) S c) (by simp);refine⟨H,l5.turn tt (by simp;omega) ?_ ?_,a5.imp id (fun⟨h,h1,h2⟩=>⟨h,h1,qqs q.out.size h2⟩),?_⟩
  ·intro x d
   simp at d;subst d;obtain⟨A',n',c',D',e',_,o',_⟩:=l5;rw[e'];exact o'.blk_ne I (by decide)
  ·intro x d _ c hB
   simp at d;subst d;exact qw2 I hB (by decide) rfl
  ·exact qxh ((((qxe q.out).trans R).more (T':=(w.heap.size+2)::g::zbt V) (by intro x d;simp at d⊢;simp[d])).trans (tt.more (by intro x d;simp at d⊢;simp[d]))) (by omega))
 clear l5 a5 R I;go_wp2
 exact bodyPost_ret (results_cell_row rfl _ _ (w.heap.size+2) _ c (0,0) _ rfl G6.out zct rfl r.out) rfl ⟨rfl,P6.out⟩
end Go.Proofs.Y
namespace Go.Hm
open Go Go.RowKit
theorem z8v(w:World):RowsAt w none 0 0 []:=⟨qwy,(fun _ b=>nomatch b),qq0 _⟩
theorem ConstIn.turn{W w w':World}{T:List Nat}(c:ConstIn W)(b:New W w)(k:Turns T w w')(d:∀x∈T,W.heap.size<=x):ConstIn w':=c.new (Turns.below b k d (qq0 _))
section
variable{P:Program}{w:World}{a:Act}{dst:Option Tmp}{tt:TypeId}{pos:String}{af:Array Edge}{gd:Option (Nat × Bool)}
theorem z1r{t f:TypeId}{x y:Operand}{v:Value}{xs b:Array Value}(d:a.eval x= .agg xs)(e:a.eval y= .agg b)(hm:P.eqGuardType P.depth t=false)(c:(binOp .eql t (.agg xs) (.agg b)).run P w= .ok v w):(execOp a.eval ⟨dst,.binOp .eql t x y f,tt,pos,af,gd⟩).run P w= .ok (.value v) w:=by unfold execOp;simp only[d,e,qwg,run_eqGuard_agg (hm:=hm),c,qwi,qwh]
end
end Go.Hm
namespace Go.Proofs.Y
open Go.RowKit Go.Hm
theorem LogAt.made(w:World)(base:Nat):LogAt (w.alloc (.cells #[.slice none 0 0] 86)) base w.heap.size (.slice none 0 0) []:=⟨none,0,0,[],rfl,qw1 _ _ _,qw0,(fun _ b=>nomatch b),rfl⟩
end Go.Proofs.Y
set_option maxRecDepth 100000
namespace Go.Hm
open Go Go.RowKit
abbrev qkg:=List Nat × Option Addr × Nat × List zds
def qpq(r:qkg):List Value:=[.string (zaf r.1),.slice r.2.1 r.2.2.2.length r.2.2.1]
def PartsFine(D:List zds):Prop:=∀p∈bytesOf D,(∀x∈p,x<256)/\p.length<=140737488351232
theorem PartsFine.lt{D:List zds}(h:PartsFine D):∀p∈bytesOf D,∀x∈p,x<256:=fun p a=>(h p a).1
structure RowIn(w:World)(r:qkg):Prop where
 tag:(∀x∈r.1,x<256)/\r.1.length<=140737488351232
 rows:RowsAt w r.2.1 r.2.2.2.length r.2.2.1 r.2.2.2
 fine:PartsFine r.2.2.2
 few:r.2.2.2.length<=4611686018427387903
theorem RowIn.later{w w':World}{r:qkg}(h:RowIn w r)(a:New w w'):RowIn w' r:=⟨h.tag,h.rows.later a,h.fine,h.few⟩
end Go.Hm
namespace Go.Proofs.Y
open Go.RowKit Go.Hm Go.WideShapes Go.ChangeShapes
end Go.Proofs.Y
namespace Go.Hm
open Go Go.RowKit
structure LogRows(w:World)(A:Option Addr)(L:List qkg):Prop where
 row:Reads w w.heap.size 2 A L.length (recs qpq L)
 fine:∀r∈L,RowIn w r
theorem LogRows.later{w w':World}{A:Option Addr}{L:List qkg}(h:LogRows w A L)(b:New w w'):LogRows w' A L:=⟨qxj h.row b,fun r c=>(h.fine r c).later b⟩
abbrev qmi:qkg:=([],none,0,[])
theorem LogRows.at_{w:World}{A:Option Addr}{L:List qkg}(h:LogRows w A L){i:Nat}(hi:i<L.length):
 ∃ad,A=some ad/\RowIn w (L.getD i qmi)/\ ∀W,New w W->W.cell? (ad.add (i*2))=some (.string (zaf (L.getD i qmi).1))/\W.cell? ⟨(ad.add (i*2)).block,(ad.add (i*2)).off+1,none⟩=some (.slice (L.getD i qmi).2.1 (L.getD i qmi).2.2.2.length (L.getD i qmi).2.2.1):=by
 obtain⟨ad,e,d,k,g⟩:=Reads.rec_ (f:=qpq) (sz:=2) (fun _=>rfl) qmi h.row hi (by omega);refine⟨ad,e,h.fine _ ?_,fun W c=>?_⟩
 ·rw[qsh,qqt hi]
  exact qrf hi
 ·have j:=g 0 _ rfl
  have b:=g 1 _ rfl;rw[<-zbc] at b;exact⟨(qwu c (by rw[zam];exact d)).trans j,(qwu c (by rw[zam];exact d)).trans b⟩
def GoodF(F:List (List Nat)):Prop:=∀p∈F,(∀x∈p,x<256)/\p.length<=10000000
theorem GoodF.add{F:List (List Nat)}{o:Option (List Nat)}(h:GoodF F)(c:∀f,o=some f->(∀x∈f,x<256)/\f.length<=10000000):GoodF (F++o.toList):=by
 intro p b;rcases qr5.1 b with b|b
 ·exact h p b
 ·cases o with
  |none=>simp at b
  |some f=>
   obtain rfl:p=f:=by simpa using b
   exact c p rfl
end Go.Hm
namespace Go.Proofs.Y
open Go.RowKit Go.Hm
theorem zzf{P:Program}{w:World}{t:TypeId}{xs c:Array Value}{b:Bool}(h:(binOp .eql t (.agg xs) (.agg c)).run P w= .ok (.bool b) w):(binOp .neq t (.agg xs) (.agg c)).run P w= .ok (.bool !b) w:=by
 rw[run_eql_struct] at h;simp only[binOp];simp[Op.equal,Op.maxDepth];cases hq:(Op.equalIn 10000 t (.agg xs) (.agg c)).run P w with
 |ok d e=>
  rw[hq] at h;simp[Result.andThen] at h⊢;exact h
 |_=>rw[hq] at h;simp[Result.andThen] at h
theorem LogAt.own{w:World}{base g B:Nat}{V:Value}{L:List (List Nat)}(h:LogAt w base g V L)(c:B<=base)(d:B<=g):∀x∈g::zbt V,B<=x:=by
 intro x b;rcases qsm.1 b with rfl|b
 ·exact d
 ·exact qqs c (h.ge x b).1
theorem LogAt.noB{w:World}{base g:Nat}{V:Value}{L:List (List Nat)}(h:LogAt w base g V L):∀x∈g::zbt V,x<w.heap.size-> ∀cs,¬Blk w x 5 cs:=by
 obtain⟨A,n,c,D,rfl,e,f,_⟩:=h;intro x b _ cs d;rcases qsm.1 b with rfl|b
 ·exact qw2 e d (by decide) rfl
 ·exact zfo f d (by decide) b
theorem z1s{V:Value}{x:Nat}(h:V.ownBlock=some x):x∈zbt V:=by unfold zbt;rw[h];simp
end Go.Proofs.Y
namespace Go.Hm
open Go Go.RowKit
section
variable{P:Program}{o:Oper}{a:Act}{Q:Exit->Act->World->Prop}{K:Act->World->Prop}
theorem qhn{w:World}{t e:TypeId}{z:Value}{sz d:Nat}(E:ElT P t e z sz d)(s x:Operand)
 (Y:o.op= .call {callee:= .builtin .append,args:= #[s,x],argTypes:= #[t,t]})
 {W:World}{B base n m c:Nat}{v:Value}{xs news:List Value}{A:Option Addr}(b:w.ownsRow base e sz v n xs)(F:Reads w w.heap.size sz A m news)(Z:a.eval s=v)(hx:a.eval x= .slice A m c)
 (V:Below B W w)(I:B<=base)(f:base<=w.heap.size)(h1:∀u∈news,u.oneCell'=true)
 (M:(n+m)*d<=140737488355328)(hm:n+m<=maxLen)
 (h:∀A' c' w',n+m<=c'->c'<=maxLen->w'.ownsRow base e sz (.slice A' (n+m) c') (n+m) (xs++news)->w.grownBy w' v.ownBlock->Below B W w'->(Value.ownBlock (.slice A' (n+m) c')=v.ownBlock\/ ∃g,Value.ownBlock (.slice A' (n+m) c')=some g/\w.heap.size<=g)->K (a.put o.dst (.slice A' (n+m) c')) w'):
 Oper.wp P o a w K Q:=by
 obtain⟨i,J,S,T,U⟩:=info_parts E.hi;rcases A with _|G
 ·have L:m=0:=by
   rcases qrg m with q|q
   ·exact q
   ·obtain⟨G,C,_⟩:=F.2 q
    cases C
  subst L;have N:news=[]:=qrh (by have:=F.1;omega);subst N;have D:∀ty,(Builtin.append_ #[t,t] ty #[v,.slice none 0 c]).run P w= .ok v w:=by
   intro ty;rcases b.2 with⟨rfl,a3⟩|⟨g,a1,a2,rfl,_,_,O,_⟩
   ·simp[Builtin.append_,run_underlying E.ht,sizeOf,typeInfo,J,Builtin.lenOf,Builtin.firstCells]
   ·simp[Builtin.append_,run_underlying E.ht,sizeOf,typeInfo,J,Builtin.lenOf,Builtin.firstCells,O,storeCells]
  obtain⟨A',c',rfl,r,y⟩:=zes b;unfold Oper.wp execOp;simp only[Y,resolve,invoke,builtin,qwg,qwh,qwi,qri,qrj,qrk,Z,hx,D];exact h A' c' w r y (by simpa using b) (qql w _) V (.inl rfl)
 ·have hl:news.length=m*sz:=F.1
  have p:∀j u,news[j]? =some u->w.cell? (G.add j)=some u:=by
   intro j u hu;rcases qrg m with q|q
   ·subst q
    have M:news=[]:=qrh (by omega);subst M;simp at hu
   ·obtain⟨a0,C,_,hc⟩:=F.2 q
    injection C with C;subst C;exact hc j u hu
  obtain⟨v',w',R,l,X,_,H⟩:=run_append_own_at (P:=P) w base t o.type e i z sz d E.ht J S T U E.hz E.hs v n xs b G m c news hl p h1 hm M f;obtain⟨A',c',rfl,r,y⟩:=zes l;unfold Oper.wp execOp;simp only[Y,resolve,invoke,builtin,qwg,qwh,qwi,qri,qrj,qrk,Z,hx,R];exact h A' c' w' r y l X (V.grown X (qqs I f) (fun k hk=>by have:=(qqj b k hk).1;omega)) (H.imp id (fun e=>⟨_,e,qq0 _⟩))
end
end Go.Hm
namespace Go.Proofs.Y
open Go.RowKit Go.Hm
def qls(c:za2)(g:Nat)(S:St)(w:World)(e:Ending)(w':World):Prop:=e= .returned (.agg #[.string (zaf c.1),.int .i64 c.2.1,.bool c.2.2])/\CurS w' g S/\w.grownBy w' (some g)
theorem z6y{w:World}{g:Nat}{S:St}(h:CurS w g S):Calls Tryz.prog 115 #[.pointer (some ⟨g,0,none⟩)] w (qls (zvb S).1 g (zvb S).2 w):=by
 have t:=h.ok;have hg:=h.lt;obtain⟨Y,i⟩:∃W,W=w.alloc (.cells #[.string ⟨#[]⟩,.int .i64 0,.bool false] 71):=⟨_,rfl⟩;have b0:New w Y:=by rw[i];exact(qwd _ _).alloc (qq0 _) _
 have G0:w.grownBy Y (some g):=by rw[i];exact qwf _ _ _
 have B0:Blk Y w.heap.size 71 #[.string ⟨#[]⟩,.int .i64 0,.bool false]:=by rw[i];exact qw1 _ _ _
 have h0:=h.below b0;have k:w.heap.size≠g:=by omega
 have G:=qwk (zei (m:=100) h0 (by omega) (by omega));have hl:=zdo (m:=100) S (by omega) t;have B:=zbo (m:=100) t;rw[i] at G;have HW:=qwk i;clear h h0 t i b0;generalize H:zvb S=R;unfold zvb at H;generalize lenS 100 S=R1 at*;obtain⟨n1,S1⟩:=R1;simp only at hl B H G;have d:=qwk H;clear H;go_enter Tryz.func115,Tryz.ntmps115
 go_wp2_with fail
 refine G.out.mono ?_;rintro e w1 ⟨rfl,C1,F⟩;rw[<-HW.out] at F;have B1:=B0.grown F (by simpa using k);have y:=G0.trans F;have U:=qwk (zqq (n:=(n1:Int)) C1 (by omega) (by omega));obtain⟨u,l2⟩:=zf8 (n:=(n1:Int)) B;replace d:=d.out;generalize zcv (n1:Int) S1=R2 at*;obtain⟨I,S2⟩:=R2;simp only at u l2 d U;replace d:=qwk d;clear G B0 G0 F C1;go_wp2_with fail
 refine U.out.mono ?_;rintro e w2 ⟨A2,n2,c2,rfl,e2,k2,C2,N⟩;have B2:=B1.grown N (by simpa using k);have z:=y.trans N;have X2:=zjz (c:=c2) k2.reads;have V:=qwk (zjm C2);have C:=zo8 u;have a0:=zo9 u;replace d:=d.out;generalize zbn S2=R3 at*;obtain⟨J,S3⟩:=R3;simp only at C a0 d V;replace d:=qwk d;clear U B1 y N C2 k2 e2;go_wp2_with fail
 refine V.out.mono ?_;rintro e w3 ⟨rfl,C3,O⟩;have B3:=B2.grown O (by simpa using k);have A:=z.trans O;have X:=qwk (zjm C3);have a1:=zo9 C;replace d:=d.out;generalize zbn S3=R4 at*;obtain⟨p,S4⟩:=R4;simp only at a1 d X;replace d:=qwk d;clear V B2 z O C3 X2;go_wp2_with fail
 refine X.out.mono ?_;rintro e w4 ⟨rfl,K,P⟩;have q:=B3.grown P (by simpa using k);have r:=A.trans P;clear X B3 A P;by_cases hu:1<p
 ·have P5:=qwk (zqp K)
  go_wp2_with fail
  refine P5.out.mono ?_;rintro e w5 ⟨rfl,C5,Q⟩;have x:=q.grown Q (by simpa using k);have M:=r.trans Q;clear P5 q r Q K;obtain⟨p0,p1,p2⟩:=zan x;have f0:=x.frozen 0;have f1:=x.frozen 1;have f2:=x.frozen 2;have o:=qwk x;clear x;go_wp2
  obtain⟨Z,j,f,s,T⟩:=z8q o.out (a:= .string (zaf I)) (b:= .int .i64 (J:Int)) (c:= .bool ((p:Int)==1)) M (qq0 _);rw[<-j];have D:=f.cell 0;have E:=f.cell 1;have l:=f.cell 2;simp at D E l;have L:CurS Z g none:=by rw[j];exact((C5.keep zce o.out (by omega) (by decide)).keep zce (o.out.set_ 0 _) (by omega) (by decide)).keep zce ((o.out.set_ 0 _).set_ 1 _) (by omega) (by decide)
  refine bodyPost_ret (v:= .agg #[.string (zaf I),.int .i64 (J:Int),.bool ((p:Int)==1)]) (by simp[results,Tryz.results115,go_sem,D,E,l]) rfl ⟨?_,?_,s⟩
  ·rw[<-d.out,show((p:Int)==1)=decide (p=1) by rw[qrd];simp;omega]
  ·rw[<-d.out,if_pos hu]
   exact L
 ·
  obtain⟨p0,p1,p2⟩:=zan q;have f0:=q.frozen 0;have f1:=q.frozen 1;have f2:=q.frozen 2;have o:=qwk q;clear q;go_wp2
  obtain⟨Z,j,f,s,T⟩:=z8q o.out (a:= .string (zaf I)) (b:= .int .i64 (J:Int)) (c:= .bool ((p:Int)==1)) r (qq0 _);rw[<-j];have D:=f.cell 0;have E:=f.cell 1;have l:=f.cell 2;simp at D E l;have L:CurS Z g S4:=by rw[j];exact((K.keep zce o.out (by omega) (by decide)).keep zce (o.out.set_ 0 _) (by omega) (by decide)).keep zce ((o.out.set_ 0 _).set_ 1 _) (by omega) (by decide)
  refine bodyPost_ret (v:= .agg #[.string (zaf I),.int .i64 (J:Int),.bool ((p:Int)==1)]) (by simp[results,Tryz.results115,go_sem,D,E,l]) rfl ⟨?_,?_,s⟩
  ·rw[<-d.out,show((p:Int)==1)=decide (p=1) by rw[qrd];simp;omega]
  ·rw[<-d.out,if_neg hu]
   exact L
theorem zjx{w a b:World}{row:Option Nat}(h:w.grownBy a row)(c:a.grownBy b row):w.grownBy b row:=h.trans c
def qhp(l:List za2)(g:Nat)(S:St)(w:World)(e:Ending)(w':World):Prop:=∃A n c,e= .returned (.slice A n c)/\n<=c/\c<=maxLen/\w'.ownsRow w.heap.size 71 3 (.slice A n c) n (recs zle l)/\CurS w' g S/\w.grownBy w' (some g)
theorem elC:ElT Tryz.prog 53 71 (.agg #[.string ⟨#[]⟩,.int .i64 0,.bool false]) 3 32:=⟨by kernel_rfl,by kernel_rfl,rfl,by omega⟩
theorem qhq{w:World}{g:Nat}{S:St}(h:CurS w g S):Calls Tryz.prog 96 #[.pointer (some ⟨g,0,none⟩)] w (qhp (getC S).1 g (getC S).2 w):=by
 have u:=h.ok;have hg:=h.lt;have V:=qwk (zei (m:=64) h (by omega) (by omega));have hl:=zdo (m:=64) S (by omega) u;have y:=zbo (m:=64) u;have A:=qwk (show getC S=_ from rfl);generalize J:getC S=R at*;unfold getC at J;generalize lenS 64 S=R1 at*;obtain⟨n,r⟩:=R1;simp only at hl y J V;have p:=qwk J;clear J A h u;go_enter Tryz.func96,Tryz.ntmps96
 go_wp2_with fail
 refine V.out.mono ?_;rintro e H ⟨rfl,M,A⟩;have z1:=A.size;clear V;have g1:g<H.heap.size:=M.lt
 go_wp2_with (refine z4f elC rfl (.tmp 8) (.tmp 8) rfl (W:=H) (B:=H.heap.size) n rfl rfl rfl rfl (qwd _ H) (qq0 _) (by omega) (by simp only[maxLen];omega) ?_
              intro w2 K g2 b2 s2)
 have C2:=M.below b2;have G2:w.grownBy w2 (some g):=zin A b2;obtain⟨D,F⟩:∃D,D=H.heap.size:=⟨_,rfl⟩;rw[<-F] at K⊢;have f:w.heap.size<=D/\g≠D:=by omega
 have K:=zfd K f.1;clear F M A z1 g2 b2 s2 g1;go_loopw [12] (fun i wr=>∃k:Nat,i= .int .i64 (k:Int)/\k<=n/\CurS wr g (ze8 k r).2/\wr.ownsRow w.heap.size 71 3 (.slice (some ⟨D,0,none⟩) n n) n (recs zle ((ze8 k r).1++List.replicate (n-k) ([],0,false)))/\w.grownBy wr (some g)) (fun i _=>n-(intOf i).toNat)
 case atStart=>exact⟨0,rfl,by omega,C2,by simpa[recs,ze8,List.flatMap_replicate,zle,zaf] using K,G2⟩
 case round=>
  obtain⟨k,rfl,hk,t,v,I⟩:=hrel;by_cases a5:k<n
  ·have X:=qwk (z6y t)
   obtain⟨q1,q2⟩:=zti k r;have a1:=z21 k y;have j:=zmx k r;have a3:=zxr a1;have T:=qwk q1;have U:=qwk q2;clear q1 q2;generalize(ze8 k r).1=a2 at*;generalize(ze8 k r).2=Sk at*;generalize zvb Sk=R4 at*;obtain⟨⟨a0,t4,u4⟩,S4⟩:=R4;simp only at X;have s:List.replicate (n-k) (([],0,false):za2)=([],0,false)::List.replicate (n-(k+1)) ([],0,false):=by rw[show n-k=(n-(k+1))+1 by omega];rfl
   rw[s,zbe,zhq] at v;have G:(recs zle a2).length=k*3:=by rw[zaw (sz:=3) (fun _=>rfl),j]
   have a4:(k:Int)<(n:Int):=by omega
   have C:=qwk v;clear v t s;go_wp2_with fail
   refine X.out.mono ?_;rintro e w4 ⟨rfl,C4,G4⟩;have q:=qqi C.out G4 (.inr (by simp[Value.ownBlock];exact fun e=>f.2 e.symm));have O:=zjx I G4;obtain⟨cs,B4⟩:=zy8 q;have c0:=q.cellAt (k*3) (by omega);have c1:=q.cellAt (k*3+1) (by omega);have c2:=q.cellAt (k*3+2) (by omega);rw[qtp (by omega),G] at c0 c1 c2;simp[zle] at c0 c1 c2;have f0:=q.frozenAt (k*3);have f1:=q.frozenAt (k*3+1);have f2:=q.frozenAt (k*3+2);have Q:=qwk q;clear q X C;go_wp2
   obtain⟨W5,E,o5,g5⟩:=qer (a:= .string (zaf a0)) (b:= .int .i64 t4) (d:= .bool u4) Q.out G;rw[<-E];clear E;go_roundw
   case rel=>exact⟨k+1,by go_num,by omega,by rw[U.out];exact C4.keep g5 B4 f.2 (by decide),by rw[T.out,qrc,zbe];exact o5,z8p O g5 f.1⟩
   case measure=>simp[intOf];omega
  ·obtain rfl:k=n:=by omega
   rw[qsz,qup,qra] at v;have o:=ztj k y;have p:=p.out;have j:=zmx k r;generalize ze8 k r=R5 at*;obtain⟨L,S5⟩:=R5;simp only at v o p j t;subst j;have r3:=qwz v;have Z:=qwk (zpi (c:=L.length) r3 (fun x hx=>⟨(o x hx).1,by have:=(o x hx).2;omega⟩) (qq0 _) (by omega));have Y:=qwk (qir t);rcases S5 with _|l5
   ·rw[if_pos (.inl rfl)] at p
    subst p;go_wp2_with fail
    refine Y.out.mono ?_;rintro e w5 ⟨rfl,rfl⟩;have P7:=qwk (zqp t);go_wp2_with fail
    refine P7.out.mono ?_;rintro e w7 ⟨rfl,N,P⟩;go_wp2
    go_ret
    exact⟨none,0,0,rfl,by omega,by simp[maxLen],zd8,N,zjx I P⟩
   ·by_cases l:zcz L=0
    ·rw[if_neg (by simp[l])] at p
     subst p;rw[l] at Z;go_wp2_with fail
     refine Y.out.mono ?_;rintro e w5 ⟨rfl,rfl⟩;go_wp2_with fail
     refine Z.out.mono ?_;rintro e w6 ⟨rfl,z⟩;go_wp2
     go_ret
     exact⟨_,_,_,rfl,qq0 _,by simp only[maxLen];omega,zba v z,t.below z,zin I z⟩
    ·rw[if_pos (.inr l)] at p
     subst p;generalize zcz L=ck at*;have e1:(ck != 0)=true:=by simpa using l
     clear l;go_wp2_with fail
     refine Y.out.mono ?_;rintro e w5 ⟨rfl,rfl⟩;go_wp2_with fail
     refine Z.out.mono ?_;rintro e w6 ⟨rfl,z⟩;have P7:=qwk (zqp (t.below z));go_wp2_with fail
     refine P7.out.mono ?_;rintro e w7 ⟨rfl,N,P⟩;go_wp2
     go_ret
     exact⟨none,0,0,rfl,by omega,by simp[maxLen],zd8,N,zjx (zin I z) P⟩
theorem qop{s s':ByteArray}{t t':Int}{b b':Bool}(W:World):
 (binOp .neq 71 (.agg #[.string s,.int .i64 t,.bool b]) (.agg #[.string s',.int .i64 t',.bool b'])).run Tryz.prog W= .ok (.bool (!(s.toList==s'.toList&&t==t'&&b==b'))) W:=by
 by_cases a:s.toList=s'.toList<;> by_cases c:t=t'<;> by_cases d:b=b';all_goals go_simp
theorem qmh{x y:za2}(a:∀z∈x.1,z<256)(c:∀z∈y.1,z<256):
 (!((zaf x.1).toList==(zaf y.1).toList&&x.2.1==y.2.1&&x.2.2==y.2.2))=decide (x≠y):=by
 rw[zg2 a c];obtain⟨s,t,b⟩:=x;obtain⟨e,f,d⟩:=y;rw[qrd];simp[Prod.ext_iff,or_assoc]
theorem z7i{w:World}{A:Option Addr}{c:Nat}{l:List za2}{r:Option Addr}{c2:Nat}{l2:List za2}(h:Reads w w.heap.size 3 A l.length (recs zle l))(Z:Reads w w.heap.size 3 r l2.length (recs zle l2))(hn:l.length<=4611686018427387903)
 (h8:∀x∈l,∀z∈x.1,z<256)(p:∀x∈l2,∀z∈x.1,z<256):
 Calls Tryz.prog 55 #[.slice A l.length c,.slice r l2.length c2] w (DrewPost (.bool (decide (l=l2))) w):=by
 by_cases m:l.length=l2.length
 ·have F:((l.length:Int) != (l2.length:Int))=false:=by simp;omega
  have u:=qwk (fun(k:Nat) (hk:k<l.length) (f:l.getD k ([],0,false)≠l2.getD k ([],0,false))=>show decide (l=l2)=false from decide_eq_false (fun e=>f (by rw[e])));have v:=qwk (fun(f:l.take l.length=l2.take l.length)=>show decide (l=l2)=true from decide_eq_true (by rw[quw] at f;rw[f,m,quw]));generalize decide (l=l2)=O at*;have M:=qwk m;clear m;go_enter Tryz.func55,Tryz.ntmps55
  go_wp2
  clear F;go_loopw [5] (fun i wr=>∃k q:Nat,i= .int .i64 (k:Int)/\k<=l.length/\wr=w.drewN q/\Hid (l.take k=l2.take k)) (fun i _=>l.length-(intOf i).toNat)
  case atStart=>exact⟨0,0,rfl,by omega,rfl,qwk (by simp)⟩
  case round=>
   obtain⟨k,q,rfl,hk,rfl,H⟩:=hrel;by_cases a:k<l.length
   ·have d:k<l2.length:=by rw[<-M.out];exact a
    obtain⟨ad,rfl,_,S,T,o⟩:=h.colT a;obtain⟨Q,rfl,_,U,V,X⟩:=Z.colT d;have y:=qwk (u.out k a);have B:=qwk (fun(f:l.getD k ([],0,false)=l2.getD k ([],0,false))=>show l.take (k+1)=l2.take (k+1) by rw[zac l k ([],0,false) a,zac l2 k ([],0,false) d,H.out,f])
    have i1:(k:Int)<(l.length:Int):=by omega
    have i2:(k:Int)<(l2.length:Int):=by omega
    have g:=qwk (qmh (h8 _ (zm7 ([],0,false) a)) (p _ (zm7 ([],0,false) d)));clear H;generalize l.getD k ([],0,false)=x1 at*;generalize l2.getD k ([],0,false)=x2 at*;obtain⟨K,I,D⟩:=x1;obtain⟨L,J,E⟩:=x2;simp only at S T o U V X;have C:=fun W=>qop (s:=zaf K) (s':=zaf L) (t:=I) (t':=J) (b:=D) (b':=E) W
    have g:=g.out;simp only at g;rw[g] at C;clear g;generalize G:decide ((K,I,D)≠(L,J,E))=R at C;have n:=qwk G;clear G;have N:=qwk (fun(f:R=true)=>y.out (of_decide_eq_true (n.out.trans f)));have P:=qwk (fun(f:R=false)=>B.out (qt9.1 (of_decide_eq_false (n.out.trans f))));clear y B n;go_wp2
    go_quiet (fail)
    cases R with
    |true=>
     have j:=qwk (N.out rfl);go_wp2
     go_ret
     exact⟨by rw[j.out];rfl,_,rfl⟩
    |false=>
     have j:=qwk (P.out rfl);go_wp2
     go_roundw
     case rel=>exact⟨k+1,_,by go_num,by omega,rfl,j⟩
     case measure=>simp[intOf];omega
   ·obtain rfl:k=l.length:=by omega
    have j:=qwk (v.out H.out);clear u v H;go_wp2
    go_ret
    exact⟨by rw[j.out];rfl,q,rfl⟩
 ·have F:((l.length:Int) != (l2.length:Int))=true:=by simp;omega
  have Y:=qwk (show decide (l=l2)=false from decide_eq_false (fun e=>m (by rw[e])));generalize decide (l=l2)=O at*;go_enter Tryz.func55,Tryz.ntmps55
  go_wp2
  go_ret
  exact⟨by rw[Y.out];rfl,0,rfl⟩
def qif(C:Prop)(w:World)(e:Ending)(w':World):Prop:=∃b,e= .returned (.bool b)/\(C->b=true)/\New w w'
theorem qig{w:World}{A:Option Addr}{c1:Nat}{r:List za2}{r1:Int}{B:Option Addr}{k1:Nat}{a:List zdw}{M:Option Addr}{c2:Nat}{t:List za2}{r2:Int}{N:Option Addr}{k2:Nat}{b:List zdw}
 (S:TabIn w A c1 r B a)(Y:TabIn w M c2 t N b):
 Calls Tryz.prog 28 #[.agg #[.slice A r.length c1,.int .i64 r1,.slice B a.length k1],.agg #[.slice M t.length c2,.int .i64 r2,.slice N b.length k2]] w (qif (r=t/\r1=r2/\a.map (·.2.2)=b.map (·.2.2)) w):=by
 have T:a.map (·.2.2)=b.map (·.2.2)->a.length=b.length/\ ∀k,k<a.length->(a.getD k (none,0,[])).2.2=(b.getD k (none,0,[])).2.2:=by
  intro hD;have D:a.length=b.length:=by have:=congrArg List.length hD;simpa using this
  refine⟨D,fun k hk=>?_⟩;have:=congrArg (fun l=>l[k]?) hD;simp only[qtk,qqt hk,qqt (show k<b.length by omega),qtw,qqh] at this;rw[qsh,qqt hk,qsh,qqt (show k<b.length by omega)];exact this
 have O:=qwk T;obtain⟨Q,g⟩:∃W,W=w.alloc (.cells #[.slice A r.length c1,.int .i64 r1,.slice B a.length k1] 56):=⟨_,rfl⟩;obtain⟨d,p⟩:∃W,W=Q.alloc (.cells #[.slice M t.length c2,.int .i64 r2,.slice N b.length k2] 56):=⟨_,rfl⟩;have b1:New w Q:=by rw[g];exact(qwd _ _).alloc (qq0 _) _
 have b2:New Q d:=by rw[p];exact(qwd _ _).alloc (qq0 _) _
 have n:=qw5 b1 b2;have X1:Blk d w.heap.size 56 #[.slice A r.length c1,.int .i64 r1,.slice B a.length k1]:=by
  have:Blk Q w.heap.size 56 #[.slice A r.length c1,.int .i64 r1,.slice B a.length k1]:=by rw[g];exact qw1 _ _ _
  exact this.below b2 this.lt
 have X2:Blk d (w.heap.size+1) 56 #[.slice M t.length c2,.int .i64 r2,.slice N b.length k2]:=by
  have e:w.heap.size+1=Q.heap.size:=by rw[g];simp
  rw[e,p];exact qw1 _ _ _
 have T1:=qwk (fun(W:World) (j:New d W)=>S.later (qw5 n j));have T2:=qwk (fun(W:World) (j:New d W)=>Y.later (qw5 n j));have F:=qwk (fun(W:World) (j:New d W)=>qtc (zan (X1.below j X1.lt)) (zan (X2.below j X2.lt)));have X:=qwk (show(w.alloc (.cells #[.slice A r.length c1,.int .i64 r1,.slice B a.length k1] 56)).alloc (.cells #[.slice M t.length c2,.int .i64 r2,.slice N b.length k2] 56)=d by rw[p,g]);obtain⟨⟨E,G,H⟩,I,J,L⟩:=F.out d (qw4 _);rw[<-X.out] at E G H I J L;have s1:=S.few;have s2:=S.few2;have s3:=Y.few2;have P1:=qwk (z7i (c:=c1) (c2:=c2) (T1.out d (qw4 _)).cols (T2.out d (qw4 _)).cols s1 (fun x z=>(S.fine x z).1) (fun x z=>(Y.fine x z).1));have f:=qwk n;clear g p X1 X2 S Y T b1 b2 n;by_cases hr:r1=r2;case neg=>
  have e0:(r1 != r2)=true:=by simp;omega
  have HR:=qwk hr;clear hr;go_enter Tryz.func28,Tryz.ntmps28
  go_wp2_with fail
  go_ret
  rw[X.out];exact⟨false,rfl,fun⟨_,h,_⟩=>absurd h HR.out,f.out⟩
 subst hr;by_cases D:a.length=b.length;case neg=>
  have e1:((a.length:Int) != (b.length:Int))=true:=by simp;omega
  have Z:=qwk D;clear D;go_enter Tryz.func28,Tryz.ntmps28
  go_wp2_with fail
  go_ret
  rw[X.out];exact⟨false,rfl,fun h=>absurd (O.out (by first|exact h.2.2|exact h.2)).1 Z.out,f.out⟩
 have e1:((a.length:Int) != (b.length:Int))=false:=by simp;omega
 have Z:=qwk D;clear D;go_enter Tryz.func28,Tryz.ntmps28
 go_wp2_with fail
 rw[X.out];refine P1.out.mono ?_;rintro e w3 ⟨rfl,q0,rfl⟩;have b3:=zd4 d q0;clear E G H I J L e1;by_cases o:r=t;case neg=>
  rw[decide_eq_false o];go_wp2
  go_ret
  exact⟨false,rfl,fun⟨h,_,_⟩=>absurd h o,qw5 f.out b3⟩
 rw[decide_eq_true o];clear o;generalize d.drewN q0=w3 at*;go_wp2
 go_loopw [5] (fun i wr=>∃k:Nat,i= .int .i64 (k:Int)/\k<=a.length/\New d wr) (fun i _=>a.length-(intOf i).toNat)
 case atStart=>exact⟨0,rfl,by omega,b3⟩
 case round=>
  obtain⟨k,rfl,hk,m⟩:=hrel;by_cases y:k<a.length
  ·have s:k<b.length:=by have:=Z.out;omega
   obtain⟨⟨E,G,H⟩,I,J,L⟩:=F.out wr m;obtain⟨E1,E2,E3,E4,E5⟩:=(T1.out _ (qw5 m (qw6 wr))).within _ (zm7 (none,0,[]) y);obtain⟨G1,G2,G3,G4,G5⟩:=(T2.out _ (qw5 m (qw6 wr))).within _ (zm7 (none,0,[]) s);have P:=qwk (z4x (c:=(a.getD k (none,0,[])).2.1) (c2:=(b.getD k (none,0,[])).2.1) E1 G1 (by omega) (by omega) (fun x z=>(E2 x z).2) (fun x z=>(G2 x z).2));have HQ:=qwk (show a.map (·.2.2)=b.map (·.2.2)->decide ((a.getD k (none,0,[])).2.2=(b.getD k (none,0,[])).2.2)=true from fun h=>decide_eq_true ((O.out h).2 k y));generalize decide ((a.getD k (none,0,[])).2.2=(b.getD k (none,0,[])).2.2)=R at*;obtain⟨ad,ea,a4,c0⟩:=(T1.out _ m).data.colD y;obtain⟨a0,a3,U,d0⟩:=(T2.out _ m).data.colD s;subst ea a3;have a5:(ad.add k).block<wr.drew.heap.size:=by rw[zam];exact a4
   have V:(a0.add k).block<wr.drew.heap.size:=by rw[zam];exact U
   have C1:=qwk (z1o c0 a5);have C2:=qwk (z1o d0 V);clear E1 E2 E3 E4 E5 G1 G2 G3 G4 G5 c0 d0;generalize(a.getD k (none,0,[])).1=a1 at*;generalize(a.getD k (none,0,[])).2.1=m1 at*;generalize(a.getD k (none,0,[])).2.2=l1 at*;generalize(b.getD k (none,0,[])).1=a2 at*;generalize(b.getD k (none,0,[])).2.1=m2 at*;generalize(b.getD k (none,0,[])).2.2=l2 at*;have i1:(k:Int)<(a.length:Int):=by omega
   have i2:(k:Int)<(b.length:Int):=by omega
   go_wp2
   clear E G H I J L;refine zav New [(true,0),(true,1),(true,2),(true,3),(true,4),(true,5),(true,6),(true,7),(true,8),(true,9),(false,10),(true,11)]
    qw4 qw5 (by kernel_rfl) (by kernel_rfl) (by kernel_rfl) (by kernel_rfl) ?_
   have C:=qw4 wr.drew;repeat(first
    |(refine zas rfl rfl (v:=?_) (fun W j=>?_) ?_;rotate_left;(obtain⟨⟨E,G,H⟩,I,J,L⟩:=F.out W (qw5 m (qw5 (qw6 wr) (qw5 C j)));have g1:=C1.out W (qw5 C j);have g2:=C2.out W (qw5 C j);go_simp<;> with_reducible rfl);simp only[Act.put,qta,qs1,qtb])
    |(refine za7 rfl rfl (fun K hK=>?_);go_simp
      refine P.out.mono ?_;rintro e u ⟨rfl,q,rfl⟩;refine hK _ _ (zd4 _ _) ?_;clear hK;replace C:=qw5 C (zd4 _ q)))
   refine zdr ?_;clear C1 C2 P C;cases R with
   |false=>
    have HN:=qwk (fun h=>absurd (HQ.out h) (by simp): ¬a.map (·.2.2)=b.map (·.2.2));go_wp2
    go_ret
    exact⟨false,rfl,fun h=>absurd (by first|exact h.2.2|exact h.2|exact h) HN.out,qw5 f.out (qw5 m (zd4 _ _))⟩
   |true=>
    go_wp2
    go_roundw
    case rel=>exact⟨k+1,by go_num,by omega,qw5 m (zd4 _ _)⟩
    case measure=>simp[intOf];omega
  ·obtain rfl:k=a.length:=by omega
   obtain⟨⟨E,G,H⟩,I,J,L⟩:=F.out wr m;go_wp2
   go_ret
   exact⟨true,rfl,fun _=>rfl,qw5 f.out m⟩
end Go.Proofs.Y
