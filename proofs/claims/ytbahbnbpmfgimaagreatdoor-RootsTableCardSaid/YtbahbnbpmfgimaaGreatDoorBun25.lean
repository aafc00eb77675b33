import Derived.Test.YtbahbnbpmfgimaaGreatDoorBun23
import Derived.Test.YtbahbnbpmfgimaaGreatDoorBun24
set_option maxHeartbeats 4000000
set_option maxRecDepth 100000
namespace Go.Hm
open Go Go.RowKit
theorem PartsT.keep{e t:TypeId}{w w':World}{D:List zds}{g:Nat}{cs:Array Value}(h:PartsT e w D)(f:w.grownBy w' (some g))(c:Blk w g t cs)(a:e≠t):PartsT e w' D:=fun d b=>⟨(h d b).1.keep f c a,(h d b).2⟩
theorem zj2(w:World)(g i:Nat)(u:Value):w.grownBy (w.setCell ⟨g,i,none⟩ u) (some g):=(Turns.setCell (T:=[g]) u (by simp) w).far
theorem z8r(D:List zds)(d:zds)(k m:Nat)(h:D.length=k):(recs zf6 D++List.replicate (m+1) (Value.slice none 0 0)).set k (.slice d.1 d.2.2.length d.2.1)=recs zf6 (D++[d])++List.replicate m (Value.slice none 0 0):=by have a:=zjg D;rw[qsy _ _ (by omega),zsp,a,h,qsz,qs0,qs1,qrc];rfl
structure TurnsB(B:Nat)(T:List Nat)(w w':World):Prop where
 os:w'.os=w.os
 tape:w'.tape=w.tape
 output:w'.output=w.output
 size:w.heap.size<=w'.heap.size
 block:∀k,k<B->k∉T->w'.heap[k]? =w.heap[k]?
section
variable{B:Nat}{T:List Nat}{w w' w2:World}
theorem TurnsB.refl(B:Nat)(T:List Nat)(w:World):TurnsB B T w w:=⟨rfl,rfl,rfl,qq0 _,fun _ _ _=>rfl⟩
theorem TurnsB.trans(h:TurnsB B T w w')(k:TurnsB B T w' w2):TurnsB B T w w2:=
 ⟨k.os.trans h.os,k.tape.trans h.tape,k.output.trans h.output,qqs h.size k.size,fun i b a=>(k.block i b a).trans (h.block i b a)⟩
theorem TurnsB.of(h:Turns T w w')(a:B<=w.heap.size):TurnsB B T w w':=⟨h.os,h.tape,h.output,h.size,fun k c b=>h.block k (qqv c a) b⟩
theorem TurnsB.far{g:Nat}(h:w.grownBy w' (some g))(c:B<=g)(a:B<=w.heap.size):TurnsB B T w w':=⟨h.os,h.tape,h.output,h.size,fun k b _=>h.block k (qqv b a) (fun e=>by injection e with e;omega)⟩
theorem TurnsB.alloc(o:Obj)(a:B<=w.heap.size):TurnsB B T w (w.alloc o):= .of (qxe ((qwd _ w).alloc (qq0 _) o)) a
theorem TurnsB.turns(h:TurnsB w.heap.size T w w'):Turns T w w':=⟨h.os,h.tape,h.output,h.size,h.block⟩
end
end Go.Hm
namespace Go.Proofs.Y
open Go.RowKit Go.Hm
def LogOf(t:TypeId)(w:World)(base g:Nat)(V:Value)(L:List (List Nat)):Prop:=
 ∃A n c D,V= .slice A n c/\Blk w g t #[.slice A n c]/\Own w base 24 (.slice A n c) (recs zf6 D)/\PartsT 5 w D/\bytesOf D=L
abbrev LogAt(w:World)(base g:Nat)(V:Value)(L:List (List Nat)):Prop:=LogOf 86 w base g V L
theorem LogOf.new{t:TypeId}{w w':World}{base g:Nat}{V:Value}{L:List (List Nat)}(h:LogOf t w base g V L)(a:New w w'):LogOf t w' base g V L:=by obtain⟨A,n,c,D,rfl,b,d,e,f⟩:=h;exact⟨A,n,c,D,rfl,b.below a b.lt,d.later a,e.below a,f⟩
theorem LogOf.lt{t:TypeId}{w:World}{base g:Nat}{V:Value}{L:List (List Nat)}(h:LogOf t w base g V L):g<w.heap.size:=by obtain⟨A,n,c,D,rfl,a,b,d,e⟩:=h;exact a.lt
theorem LogOf.ge{t:TypeId}{w:World}{base g:Nat}{V:Value}{L:List (List Nat)}(h:LogOf t w base g V L):∀x∈zbt V,base<=x/\x<w.heap.size:=by obtain⟨A,n,c,D,rfl,b,a,d,e⟩:=h;exact zp6 a
theorem LogOf.rows{t:TypeId}{w:World}{base g:Nat}{V:Value}{L:List (List Nat)}(h:LogOf t w base g V L):∃A c D,V= .slice A L.length c/\RowsAt w A L.length c D/\bytesOf D=L/\w.cell? ⟨g,0,none⟩=some (.slice A L.length c):=by obtain⟨A,n,c,D,rfl,d,a,e,rfl⟩:=h;have b:=a.len;rw[zjg] at b;have f:=a.cap;rw[zd6,<-b];exact⟨A,c,D,rfl,⟨a.reads,e.ins,f.1⟩,rfl,d.cell 0⟩
theorem LogOf.turn{t:TypeId}{w w':World}{base g:Nat}{V:Value}{L:List (List Nat)}{T:List Nat}(h:LogOf t w base g V L)(k:Turns T w w')(F:g∉T)(z:∀x∈T,V.ownBlock≠some x)(q:∀x∈T,x<w.heap.size-> ∀cs,¬Blk w x 5 cs):LogOf t w' base g V L:=by
 obtain⟨A,n,c,D,rfl,r,s,e,v⟩:=h;refine⟨A,n,c,D,rfl,r.touch k F,s.touch k z,fun d i=>⟨⟨⟨(e d i).1.1.1,fun l=>?_⟩,fun l b C=>?_⟩,(e d i).2⟩,v⟩
 ·obtain⟨b,p,m,E⟩:=(e d i).1.1.2 l
  obtain⟨cs,f⟩:=(e d i).1.2 l b p;have y:b.block∉T:=fun o=>q _ o m cs f
  refine⟨b,p,qqv m k.size,fun j u G=>?_⟩;rw[World.cell?_of_block (a:=b.add j) (k.block (b.add j).block (by rw[zam];exact m) (by rw[zam];exact y))];exact E j u G
 ·obtain⟨cs,f⟩:=(e d i).1.2 l b C
  exact⟨cs,f.touch k (fun o=>q _ o f.lt cs f)⟩
def zf3(t:TypeId)(v:Value)(base g:Nat)(V:Value)(L:List (List Nat))(w:World)(e:Ending)(w':World):Prop:=
 e= .returned v/\ ∃V',LogOf t w' base g V' L/\(V'.ownBlock=V.ownBlock\/ ∃h,V'.ownBlock=some h/\w.heap.size<=h)/\Turns (g::zbt V) w w'
abbrev qkb(v:Value)(base g:Nat)(V:Value)(L:List (List Nat))(w:World)(e:Ending)(w':World):Prop:=zf3 86 v base g V L w e w'
theorem zl5{w:World}{base g:Nat}{V:Value}{L:List (List Nat)}(hL:LogAt w base g V L)(a8:base<=w.heap.size)(b2:L.length<=10000000){s:List Nat}{A:Option Addr}{n c:Nat}{D:List zds}(h:RowsAt w A n c D)(hn:n<=9223372036854775806)(C:∀x∈s,x<256)(hs:s.length<=140737488351232)(ht:zik (bytesOf D)<=9900000)(Z:∀p∈bytesOf D,∀x∈p,x<256)(Y:∀w',Turns (g::zbt V) w w'->ConstIn w'):
 Calls Tryz.prog 40 #[.pointer (some ⟨g,0,none⟩),.string (zaf s),.slice A n c] w (qkb (zla (zey s (bytesOf D))) base g V (L++(za9 s (bytesOf D)).toList) w):=by
 have c0:New w (w.alloc (.cells (za5 .u8 zau).toArray 35)):=(qwd _ _).alloc (qq0 _) _;have FR:=qwk (zwb (h.later c0) hn C hs (by omega));have HC:=qwk Y;have HL:=qwk hL;have G0:=qwk (qw1 w 35 (za5 .u8 zau).toArray);have t:zey s (bytesOf D)=zey s (bytesOf D):=rfl;conv at t=>rhs;unfold zey
 replace t:=qwk t;have Q:=qwk (fun f (hf:za9 s (bytesOf D)=some f)=>qtc (zgn C Z hf) (zfn hf ht));generalize za9 s (bytesOf D)=o at*;generalize zey s (bytesOf D)=ho at*;obtain⟨W0,y⟩:∃W,W=w.alloc (.cells (za5 .u8 zau).toArray 35):=⟨_,rfl⟩;rw[<-y] at FR c0 G0;have HW:=qwk y;have C0:=qwk c0;clear h C hs ht Z Y y c0 hL;go_enter Tryz.func40,Tryz.ntmps40
 go_wp2_with fail
 have F:=FR.out;rw[HW.out] at F;refine F.mono ?_;rintro e K hf;obtain⟨M,n1,I,rfl,b,G⟩:=hf.u;have G:New W0 K:=by rw[HW.out];exact G
 have b:Own K W0.heap.size 5 (.slice M n1 I) (zar .u8 (o.getD [])):=by rw[HW.out];exact b
 have N:=qwk (G0.out.below G G0.out.lt);have r:=qwk (qw5 C0.out G);clear F FR hf HW C0 G0;cases o with
 |none=>
  have hh:ho=zau:=by rw[t.out];rfl
  subst hh;have H:=qwk (qtc (za1 N.out) (qtc (qdu (l:=zau) (by simp[zau])) (qtc (zfb .u8 zau) (zbi N.out (za5 .u8 zau).toArray))));have BE:=qwk (qxb r.out (zbv (g:=w.heap.size) K (za5 .u8 zau).toArray) (qq0 _));clear N r G b t;go_wp2_with (refine wpList_store_row rfl 35 (.tmp 6) (.tmp 17) rfl w.heap.size (za5 .u8 zau).toArray rfl rfl _ _ H.out.1 H.out.2.1 rfl H.out.2.2.1 ?_)
  refine bodyPost_ret (results_cell_row rfl _ _ w.heap.size _ (za5 .u8 zau).toArray (0,0) _ rfl H.out.2.2.2 zct rfl H.out.2.1) rfl ⟨rfl,V,?_,.inl rfl,qxe BE.out⟩;rw[Option.toList_none,qra];exact HL.out.new BE.out
 |some f=>
  have hh:ho=zef f:=by rw[t.out,qtw,qsi]
  subst hh;obtain⟨f8,fl⟩:=Q.out f rfl;obtain rfl:n1=f.length:=by have:=b.len;rwa[zaa] at this
  obtain⟨Al,nl,cl,Dl,rfl,HG,a,HP,m⟩:=HL.out.new r.out;have a4:nl=L.length:=by have:=a.len;rw[zjg] at this;rw[<-m,zd6];exact this
  have a3:(recs zf6 Dl).length=L.length:=by rw[zjg,<-zd6,m]
  have k1:K.cell? ⟨g,0,none⟩=some (.slice Al nl cl):=HG.cell 0;have a0:base<=K.heap.size:=qqs a8 r.out.size;have a6:=qwk r.out.size;have a2:g≠w.heap.size:=by have:=HL.out.lt;omega
  have R:=qwk m;have b0:=qwk a4;have k:=qwk a3;clear t Q m a4 a3;have F8:=qwk f8
  go_wp2_with ((refine zk9 elR rfl (.tmp 22) (.tmp 24) rfl (W:=K) (B:=0) a rfl rfl (qwd _ _) (qq1 _) a0 rfl (by rw[k.out];omega) (by rw[k.out];simp only[maxLen];omega) ?_)
               intro q u E _ _ o7 v b7 z7 a7;have e7:(recs zf6 Dl).length+1=L.length+1:=by rw[k.out]
               rw[e7] at o7 a7⊢;have o7:Own E base 24 (.slice q (L.length+1) u) (recs zf6 (Dl++[(M,I,f)])):=by rw[zsp];exact o7
               have G7:=HG.push a v (by decide);have O:=qwk (N.out.push a v (by decide));have p7:=((HP.push a v (by decide)).snoc (d:=(M,I,f)) ((qw3 b).push a v (by decide)) b.cap.1 (by have:=b.cap.2;simp only[maxLen] at this;omega));have r7:=((qw3 b).push a v (by decide)).1;have k7:E.cell? ⟨g,0,none⟩=some (.slice Al nl cl):=G7.cell 0;have f7:E.frozen? ⟨g,0,none⟩=false:=G7.frozen 0;have T7:=qwk (qxl v);have a9:=b.cap.1;have O7:=qwk o7;have P7:=qwk p7;have R7:=qwk r7;have j:=qwk G7;have a5:=qwk a7;clear o7 p7 e7 HG a HP b G7 N r7 v a7)
  have ts:Turns (g::zbt (.slice Al nl cl)) w (E.setCell ⟨g,0,none⟩ (.slice q (L.length+1) u)):=
   ((qxe r.out).trans (T7.out.more (by intro x i;simp[i]))).trans (Turns.setCell _ (by simp) E)
  have P8:=qwk (P7.out.keep (zj2 E g 0 (.slice q (L.length+1) u)) j.out (by decide));have SU:=qwk (zua (l:=f) (c:=I) (P8.out (M,I,f) (by simp)).1.1 F8.out a9 (by omega) (HC.out _ ts));have L8:LogAt (E.setCell ⟨g,0,none⟩ (.slice q (L.length+1) u)) base g (.slice q (L.length+1) u) (L++[f]):=
   ⟨q,L.length+1,u,Dl++[(M,I,f)],rfl,j.out.set_ 0 _,O7.out.keepT (zj2 _ _ _ _) j.out (by decide),P8.out,by rw[zof,R.out]⟩
  have G8:=qwk (O.out.far (p:=⟨g,0,none⟩) (by exact fun e=>a2 e.symm) (.slice q (L.length+1) u));have U:=qwk L8;have TS:=qwk ts;clear k1 k7 f7 ts L8 k R HC O T7 O7 P7 R7 j P8 G r b;go_wp2_with fail
  (with_reducible refine SU.out.mono ?_)
  rintro e w9 ⟨rfl,b9⟩;have P:=G8.out.below b9 G8.out.lt;have L9:=U.out.new b9;have T9:=TS.out.trans (qxe b9);have hz:(za5 .u8 zau).toArray.size=(za5 .u8 (zef f)).toArray.size:=by simp[za5,zau,zgp]
  have H:=qwk (qtc (za1 P) (qtc (qdu (zgp f)) (qtc hz (qtc (zfb .u8 (zef f)) (zbi P (za5 .u8 (zef f)).toArray)))));have X:=qwk (qxh (((T9.more (T':=w.heap.size::g::zbt (.slice Al nl cl)) (by intro x i;simp at i⊢;simp[i])).trans (qxf (zbv (g:=w.heap.size) w9 (za5 .u8 (zef f)).toArray) (by simp)))) (qq0 _));have S:=qwk (L9.turn (T:=[w.heap.size]) (qxf (zbv (g:=w.heap.size) w9 (za5 .u8 (zef f)).toArray) (by simp)) (by simpa using a2)
   (by intro x i;simp at i;subst i;obtain⟨A',n',c',D',e',_,o',_⟩:=L9;rw[e'];exact o'.blk_ne P (by decide))
   (by intro x i _ J hB;simp at i;subst i;exact qw2 P hB (by decide) rfl))
  obtain⟨J,z⟩:∃J,J=(za5 .u8 (zef f)).toArray:=⟨_,rfl⟩;have a1:zla (zef f)= .agg J:=by rw[z];rfl
  have HV:=qwk a1;rw[<-z] at H X S⊢;clear z a1;clear P L9 T9 b9 SU hz U TS G8;go_wp2_with (refine wpList_store_row rfl 35 (.tmp 6) (.tmp 29) rfl w.heap.size J rfl rfl _ _ H.out.1 H.out.2.1 H.out.2.2.1 H.out.2.2.2.1 ?_)
  rw[HV.out];exact bodyPost_ret (results_cell_row rfl _ _ w.heap.size _ J (0,0) _ rfl H.out.2.2.2.2 zct rfl H.out.2.1) rfl ⟨rfl,_,S.out,a5.out.imp id (fun⟨h,h1,h2⟩=>⟨h,h1,qqs (a6.out) h2⟩),X.out⟩
def FramesPost(L:List (List Nat))(w:World)(e:Ending)(w':World):Prop:=
 ∃A c D,e= .returned (.slice A L.length c)/\Own w' w.heap.size 24 (.slice A L.length c) (recs zf6 D)/\(∀d∈D,Own w' w.heap.size 5 (.slice d.1 d.2.2.length d.2.1) (zar .u8 d.2.2))/\bytesOf D=L/\New w w'
theorem FramesPost.rows{w w':World}{A:Option Addr}{n c:Nat}{D:List zds}(o:Own w' w.heap.size 24 (.slice A n c) (recs zf6 D))(h:∀d∈D,Own w' w.heap.size 5 (.slice d.1 d.2.2.length d.2.1) (zar .u8 d.2.2)):RowsAt w' A n c D:=by have b:=o.len;rw[zjg] at b;subst b;exact⟨o.reads,fun d a=>⟨(h d a).reads,(h d a).cap.1,by have:=(h d a).cap.2;simp only[maxLen] at this;omega⟩,o.cap.1⟩
theorem zza{w:World}{base g:Nat}{V:Value}{L:List (List Nat)}(y:LogAt w base g V L)(Q:L.length<=10000000)(hl:∀p∈L,p.length<=140737488355328):
 Calls Tryz.prog 22 #[.pointer (some ⟨g,0,none⟩)] w (FramesPost L w):=by
 obtain⟨A,c,D,_,s,R,f⟩:=y.rows;have hD:D.length=L.length:=by rw[<-R,zd6]
 have s:=qwk s;have HB:=qwk R;have HD:=qwk hD;have H8:=qwk hl;have HC:=qwk (fun(W:World) (hW:New w W)=>(qwu hW (p:=⟨g,0,none⟩) y.lt).trans f);obtain⟨n,S⟩:∃n,n=L.length:=⟨_,rfl⟩;rw[<-S] at s f HC HD Q;have z:=qwk S;clear y hl R S hD;go_enter Tryz.func22,Tryz.ntmps22
 go_wp2_with (refine zcf elR rfl (.tmp 10) (.tmp 10) rfl (W:=w) (B:=w.heap.size) n n rfl rfl rfl rfl (qq0 _) (qwd _ _) (qq0 _) rfl (by omega) (by simp only[maxLen];omega) ?_
              intro w1 o1 C K s1;have k1:=HC.out w1 K;have O1:Hid (∃a:List zds,a.length=0/\Own w1 w.heap.size 24 (.slice (some ⟨w.heap.size,0,none⟩) n n) (recs zf6 a++List.replicate (n-0) (.slice none 0 0))/\(∀d∈a,Own w1 w.heap.size 5 (.slice d.1 d.2.2.length d.2.1) (zar .u8 d.2.2))/\bytesOf a=L.take 0):=qwk ⟨[],rfl,o1,(fun d hd=>nomatch hd),rfl⟩;have B1:=qwk K;clear o1 C s1 K)
 clear k1 f;go_loopw [17] (fun i wr=>∃k:Nat,k<=n/\i= .int .i64 (k:Int)/\Hid (∃a:List zds,a.length=k/\Own wr w.heap.size 24 (.slice (some ⟨w.heap.size,0,none⟩) n n) (recs zf6 a++List.replicate (n-k) (.slice none 0 0))/\(∀d∈a,Own wr w.heap.size 5 (.slice d.1 d.2.2.length d.2.1) (zar .u8 d.2.2))/\bytesOf a=L.take k)/\Hid (New w wr)) (fun i _=>n-(intOf i).toNat)
 case atStart=>exact⟨0,by omega,rfl,O1,B1⟩
 case round=>
  clear O1 B1;obtain⟨k,hk,rfl,O,b⟩:=hrel;by_cases h:k<n
  ·have o:k<D.length:=by rw[HD.out];exact h
   obtain⟨ad,rfl,_⟩:=s.out.at_ o;have kc:=s.out.cells o wr b.out;have RD:=((s.out.later b.out).parts.at_ o).1;have M:=ze3 D k;have Z:=zac L k [] (by rw[<-z.out];exact h);have C:=H8.out _ (zf7 (L:=L) (k:=k) (by rw[<-z.out];exact h));rw[HB.out] at M;rw[M] at C Z;generalize D.getD k (none,0,[])=d at*;have TK:=qwk Z;have CL:=qwk (zj1 (c:=d.2.1) RD C);clear M Z C RD
   go_wp2_with (go_at_call 42;refine CL.out.mono ?_;rintro e H ⟨r,n5,t,rfl,o5,G⟩
                obtain⟨a,j,v,l,m⟩:=O.out;have Y:=v.later G;obtain⟨g',u,P,a1,a0,q,X,N,st⟩:=Y.at_ (i:=k) h;obtain rfl:w.heap.size=g':=by injection P with P;injection P
                have X:H.cell? ⟨w.heap.size,k,none⟩=some u:=X;have N:H.frozen? ⟨w.heap.size,k,none⟩=false:=N;obtain⟨cs,E⟩:=Own.row Y w.heap.size rfl;have s5:=st (.slice r n5 t);have S5:=qwk s5;have I:=qwk E;have J:=qwk o5;have OO:=qwk (qtc j (qtc l m));have B5:=qwk (qw5 b.out G);have BB:=qwk G;clear j v l m Y st s5 E o5 G q O)
   clear X N kc;have U:n5=d.2.2.length:=by have:=J.out.len;rwa[zaa] at this
   subst U;have b6:=qwk (B5.out.setCell (p:=⟨w.heap.size,k,none⟩) (qq0 _) (.slice r d.2.2.length t));have O6:Hid (∃a:List zds,a.length=k+1/\Own (H.setCell ⟨w.heap.size,k,none⟩ (.slice r d.2.2.length t)) w.heap.size 24 (.slice (some ⟨w.heap.size,0,none⟩) n n) (recs zf6 a++List.replicate (n-(k+1)) (.slice none 0 0))/\(∀x∈a,Own (H.setCell ⟨w.heap.size,k,none⟩ (.slice r d.2.2.length t)) w.heap.size 5 (.slice x.1 x.2.2.length x.2.1) (zar .u8 x.2.2))/\bytesOf a=L.take (k+1)):=qwk (by
    obtain⟨j,l,m⟩:=OO.out;refine⟨a++[(r,t,d.2.2)],by rw[qrp,j];rfl,?_,?_,by rw[zof,m,TK.out]⟩
    ·have s6:=S5.out
     rw[show n-k=(n-(k+1))+1 by omega] at s6;rw[<-z8r a (r,t,d.2.2) k _ j];exact s6
    ·intro x q
     rcases qr5.1 q with q|q
     ·exact((l x q).later BB.out).keepT (zj2 _ _ _ _) I.out (by decide)
     ·obtain rfl:=qr6.1 q
      exact((J.out.base_le (b':=w.heap.size) (b.out.size)).keepT (zj2 _ _ _ _) I.out (by decide)))
   clear S5 I J OO B5 BB TK;go_roundw
   case rel=>exact⟨k+1,by omega,by go_num,O6,b6⟩
   case measure=>simp[intOf];omega
  ·obtain rfl:k=n:=by omega
   obtain⟨a,j,v,l,m⟩:=O.out;rw[qsz,qup,qra] at v;have y:bytesOf a=L:=by rw[m,qru (by rw[<-z.out];omega)]
   have F:Hid (FramesPost L w (.returned (.slice (some ⟨w.heap.size,0,none⟩) k k)) wr):=qwk ⟨_,k,a,by rw[<-z.out],by rw[<-z.out];exact v,l,y,b.out⟩;clear j v l m y O b;go_wp2
   go_ret
   exact F.out
end Go.Proofs.Y
namespace Go.Hm
open Go Go.RowKit
theorem zwd(B:List (List Nat)):zdf [] B=none:=rfl
theorem zud(A B:List (List Nat))(k:Nat)(a:k<A.length):zdf (A.drop k) B=(match(B.find? fun y=>decide (A.getD k []≠y/\zef (A.getD k [])=zef y)) with|some y=>some (A.getD k [],y)|none=>zdf (A.drop (k+1)) B):=by
 have e:A.drop k=A.getD k []::A.drop (k+1):=by rw[qrb a,qsh,qqt a,qsi]
 rw[e];show List.findSome? _ _=_;rw[List.findSome?_cons];cases(B.find? fun y=>decide (A.getD k []≠y/\zef (A.getD k [])=zef y))<;> rfl
end Go.Hm
namespace Go.Proofs.Y
open Go.RowKit Go.Hm
def TwoPost(o:Option (List Nat × List Nat))(w:World)(e:Ending)(w':World):Prop:=
 ∃A n c B m d,e= .returned (.tuple #[.slice A n c,.slice B m d,.bool o.isSome])/\Reads w' w'.heap.size 1 A n (zar .u8 ((o.map Prod.fst).getD []))/\Reads w' w'.heap.size 1 B m (zar .u8 ((o.map Prod.snd).getD []))/\(n<=c/\c<=9223372036854775807)/\(m<=d/\d<=9223372036854775807)/\New w w'
theorem TwoPost.none_{w w':World}(h:New w w'):TwoPost none w (.returned (.tuple #[.slice none 0 0,.slice none 0 0,.bool false])) w':=
 ⟨none,0,0,none,0,0,rfl,qwy,qwy,⟨by omega,by omega⟩,⟨by omega,by omega⟩,h⟩
theorem TwoPost.some_{w w' W:World}{A B:Option Addr}{n c m d base a:Nat}{x y:List Nat}(h:New w w')(b:Own W base 5 (.slice A n c) (zar .u8 x))(f:New W w')(e:Own w' a 5 (.slice B m d) (zar .u8 y)):TwoPost (some (x,y)) w (.returned (.tuple #[.slice A n c,.slice B m d,.bool true])) w':=
 ⟨A,n,c,B,m,d,rfl,(b.later f).reads,e.reads,⟨b.cap.1,by have:=b.cap.2;simp only[maxLen] at this;omega⟩,⟨e.cap.1,by have:=e.cap.2;simp only[maxLen] at this;omega⟩,h⟩
theorem zzc{w:World}{A B:Option Addr}{n c m d:Nat}{D E:List zds}(h:RowsAt w A n c D)(k:RowsAt w B m d E)(hn:n<=9223372036854775806)(hm:m<=9223372036854775806)(h8:∀p∈bytesOf D,(∀x∈p,x<256)/\p.length<=10000000)(k8:∀p∈bytesOf E,(∀x∈p,x<256)/\p.length<=10000000)(hC:ConstIn w):
 Calls Tryz.prog 44 #[.slice A n c,.slice B m d,.func (.func 25) #[] #[]] w (TwoPost (zdf (bytesOf D) (bytesOf E)) w):=by
 obtain rfl:=h.len;obtain rfl:=k.len;have HR:=qwk h;have S:=qwk k;have H8:=qwk h8;have K8:=qwk k8;have HC:=qwk hC;have HB:=qwk (zd6 D);have KB:=qwk (zd6 E);have PA:=qwk (z8n k hm k8 hC);obtain⟨X,hX⟩:∃X,X=zdf (bytesOf D) (bytesOf E):=⟨_,rfl⟩;rw[<-hX];have HX:Hid (X=zdf ((bytesOf D).drop 0) (bytesOf E)):=qwk hX;clear h k h8 k8 hC hX;go_enter Tryz.func44,Tryz.ntmps44
 go_wp2_with fail
 (with_reducible refine PA.out.mono ?_)
 rintro e w0 ⟨rfl,M0,b0⟩;have M0:=qwk M0;have B0:=qwk b0;clear b0 PA;go_wp2
 go_loopw [19] (fun i wr=>∃k:Nat,k<=D.length/\i= .int .i64 (k:Int)/\Hid (X=zdf ((bytesOf D).drop k) (bytesOf E))/\Hid (MapF Tryz.prog 35 wr w.heap.size E.length (zc8 (bytesOf E) E.length))/\Hid (New w wr)) (fun i _=>D.length-(intOf i).toNat)
 case atStart=>exact⟨0,by omega,rfl,HX,M0,B0⟩
 case round=>
  clear M0 B0 HX;obtain⟨k,hk,rfl,HX,M,b⟩:=hrel;by_cases z:k<D.length
  ·obtain⟨ad,rfl,_⟩:=HR.out.at_ z
   have hc:=HR.out.cells z wr b.out;have RD:=((HR.out.later b.out).parts.at_ z);have e1:=ze3 D k;have g1:=H8.out _ (zf7 (L:=bytesOf D) (k:=k) (by rw[HB.out];exact z));have C:=zud (bytesOf D) (bytesOf E) k (by rw[HB.out];exact z);rw[z4d,KB.out] at C;rw[e1] at g1 C;rw[<-HX.out] at C;generalize D.getD k (none,0,[])=d at*;have SU:=qwk (zua (c:=d.2.1) RD.1 g1.1 RD.2.1 g1.2 (HC.out.new b.out));have r:=qwk C;clear C;go_wp2_with fail
   refine SU.out.mono ?_;rintro e G ⟨rfl,N⟩;have U:=qwk (M.out.new N);obtain⟨cs,R⟩:∃cs,cs=(za5 .u8 (zef d.2.2)).toArray:=⟨_,rfl⟩;have HD:=qwk (show .agg cs=zla (zef d.2.2) by rw[R];rfl);rw[<-R];have KY:=qwk (qmt d.2.2);have a1:=qwk RD.1;have G8:=qwk g1;have a2:=qwk e1;have B1:=qwk (qw5 b.out N);clear R RD e1 SU M;cases hf:zc8 (bytesOf E) E.length (zef d.2.2) with
   |none=>
    have Z:=qwk hf;have f:=r.out;rw[hf] at f;have I:Hid (X=zdf ((bytesOf D).drop (k+1)) (bytesOf E)):=qwk f;have t:New G (G.alloc (.cells #[.int .i64 0,.int .i64 0] 146)):=(qwd _ _).alloc (qq0 _) _;have M2:=qwk (U.out.new t);have B2:=qwk (qw5 B1.out t);clear hf f t N r;go_wp2_with (first
     |(rw[HD.out];refine zdk rfl (.tmp 24) (.tmp 27) 143 rfl zk1 z8l (zg5 _) U.out KY.out rfl rfl ?_;rw[Z.out];simp only[zjh,qui,quj])
     |fail)
    go_roundw
    case rel=>exact⟨k+1,by omega,by go_num,I,M2,B2⟩
    case measure=>simp[intOf];omega
   |some p=>
    have a0:=zp3 (bytesOf E) E.length (zef d.2.2);rw[hf] at a0;obtain⟨a,ha,h1,_,_,h4⟩:=a0;obtain⟨p1,s⟩:=p;obtain rfl:p1=(a:Int):=h1;have o:s≠ -1-> ∃b,b<E.length/\s=(b:Int):=by
     rcases h4 with⟨h5,_⟩|⟨b,hb,h5,_⟩
     ·exact fun h=>absurd h5 h
     ·exact fun _=>⟨b,hb,h5⟩
    have f:=r.out;rw[hf] at f;simp only[qrn] at f;have t:New G (G.alloc (.cells #[.int .i64 (a:Int),.int .i64 s] 146)):=(qwd _ _).alloc (qq0 _) _;have M2:=qwk (U.out.new t);have O:=qw5 B1.out t;have Q:=qw1 G 146 #[.int .i64 (a:Int),.int .i64 s];obtain⟨ae,rfl,_⟩:=S.out.at_ ha;have ca:=S.out.cells ha _ O;have Ra:=((S.out.later O).parts.at_ ha).1;have KA:=qwk (fun(W:World) (j:New w W)=>S.out.cells ha W j);have T:=(K8.out _ (zf7 (L:=bytesOf E) (k:=a) (by rw[KB.out];exact ha)));have ea:=ze3 E a;rw[ea] at T f;have rd:=qxj a1.out (qw5 N t);generalize E.getD a (none,0,[])=x at*;have Y:=qwk (zwc (c:=d.2.1) (e:=x.2.1) rd Ra G8.out.1 T.1);have C1:=qwk (fun(W:World) (j:New (G.alloc (.cells #[.int .i64 (a:Int),.int .i64 s] 146)) W)=>zj1 (c:=d.2.1) (qxj rd j) (by have:=G8.out.2;omega));have C2:=qwk (fun(W:World) (j:New (G.alloc (.cells #[.int .i64 (a:Int),.int .i64 s] 146)) W)=>zj1 (c:=x.2.1) (qxj Ra j) (by have:=T.2;omega));have GC:=qwk (fun(W:World) (j:New (G.alloc (.cells #[.int .i64 (a:Int),.int .i64 s] 146)) W)=>qtc ((Q.below j Q.lt).cell 0) ((Q.below j Q.lt).cell 1));have Z:=qwk hf;have V:=qwk O;by_cases F:d.2.2=x.2.2
    ·rw[decide_eq_true F] at Y
     rw[if_neg (fun h=>h F)] at f;by_cases l:s= -1
     ·have d1:(s==(-1:Int))=true:=by rw[beq_iff_eq];exact l
      have d2:(s != (-1:Int))=false:=by rw[bne_eq_false_iff_eq];exact l
      rw[if_neg (fun h=>h l)] at f;have I:Hid (X=zdf ((bytesOf D).drop (k+1)) (bytesOf E)):=qwk f;subst l;clear hf f t N r h4 o rd Ra O T ea F C1 C2 GC Q;go_wp2_with (first
       |(rw[HD.out];refine zdk rfl (.tmp 24) (.tmp 27) 143 rfl zk1 z8l (zg5 _) U.out KY.out rfl rfl ?_;rw[Z.out];simp only[zjh,qsi,quk])
       |(go_at_call 78;(with_reducible refine Y.out.mono ?_);rintro e5 w5 ⟨rfl,rfl⟩)
       |fail)
      go_roundw
      case rel=>exact⟨k+1,by omega,by go_num,I,M2,V⟩
      case measure=>simp[intOf];omega
     ·have d1:(s==(-1:Int))=false:=by rw[beq_eq_false_iff_ne];exact l
      have d2:(s != (-1:Int))=true:=by rw[bne_iff_ne];exact l
      rw[if_pos l] at f;obtain⟨q,hq,rfl⟩:=o l;have KQ:=qwk (fun(W:World) (j:New w W)=>S.out.cells hq W j);have Rq:=((S.out.later O).parts.at_ hq).1;have Lq:=(K8.out _ (zf7 (L:=bytesOf E) (k:=q) (by rw[KB.out];exact hq)));have eq:=ze3 E q;rw[qrn,eq] at f;rw[eq] at Lq;generalize E.getD q (none,0,[])=y at*;have C3:=qwk (fun(W:World) (j:New (G.alloc (.cells #[.int .i64 (a:Int),.int .i64 (q:Int)] 146)) W)=>zj1 (c:=y.2.1) (qxj Rq j) (by have:=Lq.2;omega));have f:=qwk f;clear hf t N r h4 o rd Ra O T ea F C2 l Rq Lq eq M2 Q;go_wp2_with (first
       |(rw[HD.out];refine zdk rfl (.tmp 24) (.tmp 27) 143 rfl zk1 z8l (zg5 _) U.out KY.out rfl rfl ?_;rw[Z.out];simp only[zjh,qsi,quk])
       |(go_at_call 78;(with_reducible refine Y.out.mono ?_);rintro e5 w5 ⟨rfl,rfl⟩)
       |fail)
      refine zav New [(true,0),(true,2),(true,3),(true,4),(true,5),(true,6),(false,1),(false,7),(true,8),(true,9),(true,10)]
       qw4 qw5 (by kernel_rfl) (by kernel_rfl) (by kernel_rfl) (by kernel_rfl) ?_
      have g:=qw6 (G.alloc (.cells #[.int .i64 (a:Int),.int .i64 (q:Int)] 146));iterate 6 (
       refine zas rfl rfl (v:=?_) (fun W j=>?_) ?_;rotate_left
       ·have c0:=GC.out W (qw5 g j)
        have t:=KQ.out W (qw5 V.out (qw5 g j));go_simp<;> with_reducible rfl
       simp only[Act.put,qta,qs1,qtb])
      refine za7 rfl rfl (fun K u=>?_);go_simp
      (with_reducible refine(C1.out _ g).mono ?_)
      rintro e8 u8 ⟨A8,n8,c8,rfl,o8,P⟩;refine u _ _ P ?_;clear u;replace g:=qw5 g P;refine za7 rfl rfl (fun K u=>?_);go_simp
      (with_reducible refine(C3.out _ g).mono ?_)
      rintro e9 u9 ⟨A9,n9,c9,rfl,o9,H⟩;refine u _ _ H ?_;clear u;replace g:=qw5 g H;iterate 3 (
       refine zas rfl rfl (v:=?_) (fun W j=>?_) ?_;rotate_left
       ·skip
        go_simp<;> with_reducible rfl
       simp only[Act.put,qta,qs1,qtb])
      refine zdr ?_;have J:=qwk (TwoPost.some_ (qw5 V.out g) o8 H o9);clear o8 o9 g P H;go_wp2
      go_ret3
      rw[f.out];exact J.out
    ·rw[decide_eq_false F] at Y
     rw[if_pos F] at f;have f:=qwk f;clear hf t N r h4 o rd Ra O T ea F M2 Q;go_wp2_with (first
      |(rw[HD.out];refine zdk rfl (.tmp 24) (.tmp 27) 143 rfl zk1 z8l (zg5 _) U.out KY.out rfl rfl ?_;rw[Z.out];simp only[zjh,qsi,quk])
      |(go_at_call 78;(with_reducible refine Y.out.mono ?_);rintro e5 w5 ⟨rfl,rfl⟩)
      |fail)
     refine zav New [(true,0),(true,2),(true,3),(true,4),(true,5),(true,6),(false,1),(false,7),(true,8),(true,9),(true,10)]
      qw4 qw5 (by kernel_rfl) (by kernel_rfl) (by kernel_rfl) (by kernel_rfl) ?_
     have g:=qw6 (G.alloc (.cells #[.int .i64 (a:Int),.int .i64 s] 146));iterate 6 (
      refine zas rfl rfl (v:=?_) (fun W j=>?_) ?_;rotate_left
      ·have c0:=GC.out W (qw5 g j)
       have t:=KA.out W (qw5 V.out (qw5 g j));go_simp<;> with_reducible rfl
      simp only[Act.put,qta,qs1,qtb])
     refine za7 rfl rfl (fun K u=>?_);go_simp
     (with_reducible refine(C1.out _ g).mono ?_)
     rintro e8 u8 ⟨A8,n8,c8,rfl,o8,P⟩;refine u _ _ P ?_;clear u;replace g:=qw5 g P;refine za7 rfl rfl (fun K u=>?_);go_simp
     (with_reducible refine(C2.out _ g).mono ?_)
     rintro e9 u9 ⟨A9,n9,c9,rfl,o9,H⟩;refine u _ _ H ?_;clear u;replace g:=qw5 g H;iterate 3 (
      refine zas rfl rfl (v:=?_) (fun W j=>?_) ?_;rotate_left
      ·skip
       go_simp<;> with_reducible rfl
      simp only[Act.put,qta,qs1,qtb])
     refine zdr ?_;have J:=qwk (TwoPost.some_ (qw5 V.out g) o8 H o9);clear o8 o9 g P H;go_wp2
     go_ret3
     rw[f.out];exact J.out
  ·obtain rfl:k=D.length:=by omega
   have F:=HX.out;rw[qt8 (by rw[HB.out];omega),zwd] at F;have f:=qwk F;clear F;go_wp2
   go_ret3
   rw[f.out];exact TwoPost.none_ b.out
theorem zwe{w:World}{bx q by_ r:Nat}{Z Vy:Value}{L M:List (List Nat)}(t:LogAt w bx q Z L)(y:LogAt w by_ r Vy M)(hL:L.length<=10000000)(hM:M.length<=10000000)(O:∀p∈L,(∀x∈p,x<256)/\p.length<=10000000)(T:∀p∈M,(∀x∈p,x<256)/\p.length<=10000000)(P:ConstIn w):
 Calls Tryz.prog 24 #[.pointer (some ⟨q,0,none⟩),.pointer (some ⟨r,0,none⟩)] w (TwoPost (zdf L M) w):=by
 obtain⟨A,c,D,_,I,s,b⟩:=t.rows;obtain⟨B,d,E,_,J,z,f⟩:=y.rows;have i:∀W:World,New w W->Calls Tryz.prog 44 #[.slice A L.length c,.slice B M.length d,.func (.func 25) #[] #[]] W (TwoPost (zdf L M) W):=fun W a=>by have:=zzc (I.later a) (J.later a) (by omega) (by omega) (by rw[s];exact O) (by rw[z];exact T) (P.new a);rwa[s,z] at this
 have i:=qwk i;have G:=qwk (fun(W:World) (a:New w W)=>(qwu a (p:=⟨q,0,none⟩) t.lt).trans b);have H:=qwk (fun(W:World) (a:New w W)=>(qwu a (p:=⟨r,0,none⟩) y.lt).trans f);generalize L.length=n at*;generalize M.length=m at*;generalize zdf L M=o at*;clear I J s z b f O T P t y hL hM;go_enter Tryz.func24,Tryz.ntmps24
 go_wp2
 refine zav New [(true,0),(true,1),(true,2),(true,3),(true,4),(true,5),(true,6),(true,7),(false,8),(true,9),(true,10),(true,11),(true,12),(true,13),(true,14)]
  qw4 qw5 (by kernel_rfl) (by kernel_rfl) (by kernel_rfl) (by kernel_rfl) ?_
 have g:=qw6 w;iterate 8 (
  refine zas rfl rfl (v:=?_) (fun W a=>?_) ?_;rotate_left
  ·have c0:=G.out W (qw5 g a)
   have l:=H.out W (qw5 g a);go_simp<;> with_reducible rfl
  simp only[Act.put,qta,qs1,qtb])
 refine za7 rfl rfl (fun K Q=>?_);go_simp
 (with_reducible refine(i.out _ g).mono ?_)
 rintro e u h;obtain⟨C,U,N,F,V,l,rfl,X,Y,R,S,k⟩:=h;refine Q _ _ k ?_;clear Q;replace g:=qw5 g k;iterate 6 (
  refine zas rfl rfl (v:=?_) (fun W a=>?_) ?_;rotate_left
  ·skip
   go_simp<;> with_reducible rfl
  simp only[Act.put,qta,qs1,qtb])
 refine zdr ?_;have j:Hid (TwoPost o w (.returned (.tuple #[.slice C U N,.slice F V l,.bool o.isSome])) u):=qwk ⟨C,U,N,F,V,l,rfl,X,Y,R,S,g⟩;clear X Y R S k g i G H;go_wp2
 go_ret3
 exact j.out
theorem zh5{m:Int}{S:St}{N:Nat}{r:List Nat}(c:S.ok)(h:lenS m S=(N,some r)):S=some (vp N++r)/\(N:Int)<=m:=by
 rcases zbx m S c with k|⟨M,f,e,d,_,k⟩
 ·rw[k] at h
  injection h with _ h;cases h
 ·rw[k] at h
  injection h with b a;injection a with a;subst b a;exact⟨e,d⟩
theorem zq8{t:Int}{S:St}{s:zdp}{r:List Nat}(d:S.ok)(h:getA t S=(s,some r)):S=some (putS [] t s++r)/\zcj t s=true:=by
 cases S with
 |none=>
  exfalso;rw[zu2 (N:=0) (y:=0) (S1:=none) (S2:=none) rfl rfl,zu1 (N:=0) (y:=0) (S1:=none) (S2:=none) rfl rfl] at h;simp at h
 |some b=>
  obtain⟨a,c⟩:=qax (d b rfl) h;exact⟨by rw[c],a⟩
theorem qlh{t:Int}{S:St}(a:S.ok):(getA t S).2.ok:=by
 cases h:(getA t S).2 with
 |none=>exact qxo
 |some r=>
  have:=(zq8 a (show getA t S=((getA t S).1,some r) by rw[<-h])).1;exact qxp fun x b=>a _ this x (by simp[b])
noncomputable def zhk(t m:Int)(S:St):za3 × St:=
 ((((lenS 268435456 S).1:Int),((lenS m (lenS 268435456 S).2).1:Int),(getA t (lenS m (lenS 268435456 S).2).2).1),(getA t (lenS m (lenS 268435456 S).2).2).2)
theorem qbl{t m k:Int}{nu:Bool}{p:za3}{r:List Nat}(h:zi8 t nu p k=true)(e:p.2.1<=m)(hm:m<=9223372036854775807)(d:statData p.2.2)(o:r.length<=140737488351232):zhk t m (some (zfj t p++r))=(p,some r):=by
 obtain⟨⟨i,j,l,n⟩,c⟩:=pageB_most.1 h;obtain⟨a,b,s⟩:=p;dsimp only at i j l n c e d;obtain⟨a,rfl⟩:=qsu (show 0<=a by omega);obtain⟨b,rfl⟩:=qsu (show 0<=b by omega);have q:zcj t s=true:=by rw[qsl] at c;exact c.1
 have f:lenS 268435456 (some (zfj t ((a:Int),(b:Int),s)++r))=(a,some (vp b++(putS [] t s++r))):=by
  have:zfj t ((a:Int),(b:Int),s)++r=vp a++(vp b++(putS [] t s++r)):=by simp[zfj]
  rw[this];exact zb9 _ _ (by omega) (by omega)
 have g:lenS m (some (vp b++(putS [] t s++r)))=(b,some (putS [] t s++r)):=zb9 _ _ e hm;unfold zhk;rw[f];dsimp only;rw[g];dsimp only;rw[qgo q d r o]
theorem z56{t m:Int}{S:St}{p:za3}{r:List Nat}(k:S.ok)(h:zhk t m S=(p,some r)):S=some (zfj t p++r):=by
 unfold zhk at h;injection h with o b;subst o;obtain⟨N,d,i⟩:∃N d,lenS 268435456 S=(N,d):=⟨_,_,rfl⟩;have c:d.ok:=by have:=zbo (m:=268435456) k;rwa[i] at this
 rw[i] at b⊢;dsimp only at b⊢;obtain⟨M,a,j⟩:∃N a,lenS m d=(N,a):=⟨_,_,rfl⟩;have e:a.ok:=by have:=zbo (m:=m) c;rwa[j] at this
 rw[j] at b⊢;dsimp only at b⊢;have g:=(zq8 e (show getA t a=((getA t a).1,some r) by rw[<-b])).1;generalize f:(getA t a).1=s at*;subst g;clear f b;have n:=(zh5 c j).1;subst n;have l:=(zh5 k i).1;rw[l];simp[zfj]
theorem zpj{t m:Int}{S:St}(a:S.ok):(zhk t m S).2.ok:=qlh (zbo (zbo a))
theorem z57{t m:Int}{S:St}:statData (zhk t m S).1.2.2:=qaw
noncomputable def zc1(t m:Int):Nat->St->List za3 × St
 |0,S=>([],S)
 |_+1,none=>([],none)
 |k+1,some l=>((zhk t m (some l)).1::(zc1 t m k (zhk t m (some l)).2).1,(zc1 t m k (zhk t m (some l)).2).2)
theorem z0m(t m:Int)(k:Nat):zc1 t m k none=([],none):=by cases k<;> rfl
theorem zxt{t m:Int}:∀(k:Nat) {S:St},S.ok->(zc1 t m k S).2.ok
 |0,_,h=>h
 |_+1,none,_=>qxo
 |k+1,some _,h=>zxt k (zpj h)
theorem zq9{t m:Int}:∀(k:Nat) (S:St),∀p∈(zc1 t m k S).1,statData p.2.2
 |0,_,p,a=>by simp[zc1] at a
 |_+1,none,p,a=>by simp[zc1] at a
 |k+1,some l,p,a=>by
  simp only[zc1,qsm] at a;rcases a with rfl|a
  ·exact z57
  ·exact zq9 k _ p a
theorem ztm{t m k:Int}{nu:Bool}(hm:m<=9223372036854775807):∀(l:List za3) (r:List Nat),(∀p∈l,zi8 t nu p k=true/\p.2.1<=m/\statData p.2.2)->(l.flatMap (zfj t)).length+r.length<=140737488351232->zc1 t m l.length (some (l.flatMap (zfj t)++r))=(l,some r)
 | [],r,_,_=>rfl
 |p::l,r,h,hr=>by
  obtain⟨a,b,c⟩:=h p (by simp);rw[qt6,qrp] at hr;rw[qt6,qrc,qr1];simp only[zc1];rw[qbl a b hm c (by rw[qrp];omega)];dsimp only;rw[ztm hm l r (fun q d=>h q (by simp[d])) (by omega)]
theorem zra{t m:Int}:∀(k:Nat) {S:St} {l:List za3} {r:List Nat},S.ok->zc1 t m k S=(l,some r)->S=some (l.flatMap (zfj t)++r)/\l.length=k
 |0,S,l,r,_,h=>by
  simp only[zc1,qqg] at h;obtain⟨rfl,rfl⟩:=h;exact⟨rfl,rfl⟩
 |k+1,none,l,r,_,h=>by
  simp only[zc1,qqg] at h;cases h.2
 |k+1,some b,l,r,a,h=>by
  simp only[zc1,qqg] at h;obtain⟨rfl,f⟩:=h;have g:=zra k (S:=(zhk t m (some b)).2) (zpj a) (show zc1 t m k (zhk t m (some b)).2=((zc1 t m k (zhk t m (some b)).2).1,some r) by rw[<-f]);obtain⟨c,d⟩:=g;have e:=z56 a (show zhk t m (some b)=((zhk t m (some b)).1,some _) by rw[<-c]);refine⟨?_,by rw[qr1,d]⟩;rw[qt6,qrc];exact e
noncomputable def zdl(t m:Int)(S:St):List za3 × St:=zc1 t m (lenS m S).1 (lenS m S).2
theorem zmy{t m:Int}{S:St}(h:S.ok):(zdl t m S).2.ok:=zxt _ (zbo h)
theorem z58{t m:Int}{nu:Bool}{l:List za3}{r:List Nat}{rows:Int}(h:ze0 t nu l rows)(i:rows<=m)(hm:m<=9223372036854775807)(f:∀p∈l,statData p.2.2)(g:(zf4 t l).length+r.length<=140737488351232):
 zdl t m (some (zf4 t l++r))=(l,some r):=by
 have b:=zfy h.1;have o:=h.2;have c:∀p∈l,p.2.1<=znt l:=by
  have e:∀l:List za3,(∀p∈l,zi8 t nu p 65536=true)-> ∀p∈l,p.2.1<=znt l:=by
   intro l;induction l with
   |nil=>intro _ p b;simp at b
   |cons q l j=>
    intro h p b;have n:=zfy (l:=l) fun z d=>h z (by simp[d])
    have s:=(pageB_most.1 (h q (by simp))).1;rw[zh2];rcases qsm.1 b with rfl|b
    ·omega
    ·have:=j (fun z d=>h z (by simp[d])) p b
     omega
  exact e l h.1
 unfold zdl zf4 at*;rw[qrp] at g;rw[qrc,zb9 l.length _ (by omega) hm];dsimp only;exact ztm (k:=65536) (nu:=nu) hm l r (fun p a=>⟨h.1 p a,by have:=c p a;omega,f p a⟩) (by omega)
theorem z0n{t m:Int}{S:St}{l:List za3}{r:List Nat}(c:S.ok)(h:zdl t m S=(l,some r)):S=some (zf4 t l++r):=by
 unfold zdl at h;obtain⟨N,a,k⟩:∃N a,lenS m S=(N,a):=⟨_,_,rfl⟩;have b:a.ok:=by have:=zbo (m:=m) c;rwa[k] at this
 rw[k] at h;obtain⟨d,e⟩:=zra N b h;subst d;rw[(zh5 c k).1];simp[zf4,e]
noncomputable def zbk(m:Int):List za2->St->List (List za3) × St
 | [],S=>([],S)
 |c::cs,S=>((zdl c.2.1 m S).1::(zbk m cs (zdl c.2.1 m S).2).1,(zbk m cs (zdl c.2.1 m S).2).2)
theorem ztn{m:Int}:∀(a:List za2) {S:St},S.ok->(zbk m a S).2.ok
 | [],_,h=>h
 |_::a,_,h=>ztn a (zmy h)
theorem z0o{t m:Int}{S:St}:∀p∈(zdl t m S).1,statData p.2.2:=zq9 _ _
theorem zoq{m:Int}:∀(b:List za2) (S:St),∀l∈(zbk m b S).1,∀p∈l,statData p.2.2
 | [],_,l,a=>by simp[zbk] at a
 |c::b,S,l,a=>by
  simp only[zbk,qsm] at a;rcases a with rfl|a
  ·exact z0o
  ·exact zoq b _ l a
theorem zrb{m:Int}:∀(a:List za2) (S:St),(zbk m a S).1.length=a.length
 | [],_=>rfl
 |c::a,S=>by simp only[zbk,qr1,zrb a]
theorem zor{m:Int}:∀(cs:List za2) {S:St} {a:List (List za3)} {r:List Nat},S.ok->zbk m cs S=(a,some r)->S=some (zbu cs a++r)
 | [],S,a,r,_,h=>by
   simp only[zbk,qqg] at h;obtain⟨rfl,rfl⟩:=h;rfl
 |c::cs,S,a,r,b,h=>by
  simp only[zbk,qqg] at h;obtain⟨rfl,e⟩:=h;have f:=zor cs (S:=(zdl c.2.1 m S).2) (zmy b) (show zbk m cs (zdl c.2.1 m S).2=((zbk m cs (zdl c.2.1 m S).2).1,some r) by rw[<-e]);have d:=z0n b (show zdl c.2.1 m S=((zdl c.2.1 m S).1,some _) by rw[<-f]);simp only[zbu,qrc];exact d
end Go.Proofs.Y
namespace Go.Hm
open Go Go.RowKit
section
variable{α:Type}{t:TypeId}{sz:Nat}{f:α->List Value}
abbrev z7m(α:Type):=Option Addr × Nat × List α
def zn4(d:z7m α):Value:= .slice d.1 d.2.2.length d.2.1
theorem zpn{D:List (z7m α)}{j:Nat}{d x:z7m α}(h:j<D.length):(D.set j x).getD j d=x:=by rw[qsh,qv1 h];rfl
theorem zyj{D:List (z7m α)}{i j:Nat}{d x:z7m α}(h:i≠j):(D.set j x).getD i d=D.getD i d:=by rw[qsh,qv2 (by omega),qsh]
structure RowsAp(t:TypeId)(sz:Nat)(f:α->List Value)(w:World)(B:Nat)(D:List (z7m α)):Prop where
 rows:∀d∈D,w.ownsRow B t sz (zn4 d) d.2.2.length (recs f d.2.2)
 apart:∀i j,i<D.length->j<D.length->i≠j->(zn4 (D.getD i (none,0,[]))).ownBlock=none\/(zn4 (D.getD i (none,0,[]))).ownBlock≠(zn4 (D.getD j (none,0,[]))).ownBlock
theorem RowsAp.later{w w':World}{B:Nat}{D:List (z7m α)}(h:RowsAp t sz f w B D)(a:New w w'):RowsAp t sz f w' B D:=⟨fun d b=>zba (h.rows d b) a,h.apart⟩
theorem RowsAp.keepT{w w':World}{B g:Nat}{t':TypeId}{cs:Array Value}{D:List (z7m α)}(h:RowsAp t sz f w B D)(c:Blk w g t' cs)(a:t≠t')(e:w.grownBy w' (some g)):RowsAp t sz f w' B D:=
 ⟨fun d b=>qqi (h.rows d b) e (.inr (zat (h.rows d b) c a)),h.apart⟩
theorem RowsAp.nil{w:World}{B n:Nat}:RowsAp t sz f w B (List.replicate n (none,0,[])):=by
 refine⟨fun d b=>?_,fun i j a e c=>?_⟩
 ·rw[qv3 b]
  exact zd8
 ·rw[qtd] at a
  left;rw[qsh,qv4,if_pos a];rfl
theorem qcs{D:List (z7m α)}{j:Nat}(h:j<D.length):D.getD j (none,0,[])∈D:=by rw[qsh,qqt h];exact qrf h
theorem RowsAp.at_{w:World}{B j:Nat}{D:List (z7m α)}(h:RowsAp t sz f w B D)(a:j<D.length):w.ownsRow B t sz (zn4 (D.getD j (none,0,[]))) (D.getD j (none,0,[])).2.2.length (recs f (D.getD j (none,0,[])).2.2):=h.rows _ (qcs a)
theorem RowsAp.put{w w':World}{B j:Nat}{D:List (z7m α)}{d:z7m α}(h:RowsAp t sz f w B D)(o:j<D.length)(p:w'.ownsRow B t sz (zn4 d) d.2.2.length (recs f d.2.2))(q:w.grownBy w' (zn4 (D.getD j (none,0,[]))).ownBlock)
 (b:(zn4 d).ownBlock=(zn4 (D.getD j (none,0,[]))).ownBlock\/ ∃g,(zn4 d).ownBlock=some g/\w.heap.size<=g):RowsAp t sz f w' B (D.set j d):=by
 have l:∀i,i<D.length->i≠j->(zn4 (D.getD i (none,0,[]))).ownBlock=none\/(zn4 (D.getD i (none,0,[]))).ownBlock≠(zn4 d).ownBlock:=by
  intro i hi c;rcases b with b|⟨g,b,r⟩
  ·rw[b]
   exact h.apart i j hi o c
  ·rcases hu:(zn4 (D.getD i (none,0,[]))).ownBlock with _|k
   ·exact .inl rfl
   ·right
    rw[b];intro e;injection e with e;have:=(qqj (h.at_ hi) _ hu).2;omega
 refine⟨fun x s=>?_,fun i k hi n c=>?_⟩
 ·obtain⟨i,hi,rfl⟩:=qtv s
  have e:(D.set j d)[i]'hi=(D.set j d).getD i (none,0,[]):=by rw[qsh,qqt hi];rfl
  have hi:i<D.length:=by simpa using hi
  rw[e];by_cases a:i=j
  ·subst a
   rw[zpn o];exact p
  ·rw[zyj a]
   exact qqi (h.at_ hi) q (h.apart i j hi o a)
 ·rw[qq3] at hi n
  by_cases a:i=j
  ·subst a
   rw[zpn hi,zyj (fun e=>c e.symm)];exact zgu (l k n (fun e=>c e.symm))
  ·rw[zyj a]
   by_cases m:k=j
   ·subst m
    rw[zpn n];exact l i hi a
   ·rw[zyj m]
    exact h.apart i k hi n c
end
end Go.Hm
