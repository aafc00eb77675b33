import Derived.Test.YtbahbnbpmfgimaaGreatDoorBun22
set_option maxHeartbeats 4000000
set_option maxRecDepth 100000
namespace Go.Proofs.Y
open Go.RowKit Go.Hm
theorem qpz:WideMaps.ArrKey Tryz.prog 35 5 32:=⟨by kernel_rfl,by kernel_rfl,by kernel_rfl,by kernel_rfl⟩
theorem rowK:(35:TypeId)<Tryz.prog.types.size:=of_decide_eq_true (by kernel_rfl)
theorem zk1:Maps.Keyed Tryz.prog 35:=Maps.Keyed.of_law (deep_law_laid Tryz.laidOut (m:=2) (by omega) rowK (by kernel_rfl) (by kernel_rfl))
theorem qow:∃m,Tryz.prog.types.size=m+1:=⟨Tryz.prog.types.size-1,by have:=qso (qq1 _) rowK;omega⟩
theorem qox(l:List Nat):qms (zef l):=by refine⟨zgp l,fun x a=>?_⟩;unfold zef zv8 at a;obtain⟨k,_,rfl⟩:=qqu.1 a;unfold qmq;omega
theorem qmt(l:List Nat):∃kl,keyOf Tryz.prog 35 (zla (zef l))=some kl:=qka qpz (by kernel_rfl) (by kernel_rfl) (by kernel_rfl) qow (qox l)
theorem z8l:Tryz.prog.underlying 143=some (.map 35 146):=by kernel_rfl
theorem zg5(w:World):(zeroValue 146).run Tryz.prog w= .ok (zjh (0,0)) w:=by kernel_rfl
theorem zwc{w:World}{A B:Option Addr}{n m c e:Nat}{l k:List Nat}(h:Reads w w.heap.size 1 A n (zar .u8 l))(b:Reads w w.heap.size 1 B m (zar .u8 k))(a:∀x∈l,x<256)(d:∀x∈k,x<256):
 Calls Tryz.prog 78 #[.slice A n c,.slice B m e] w (zd5 (.bool (decide (l=k))) w):=by
 have f:=qwk (zg2 a d);have g:=zjz (c:=c) h;have i:=zjz (c:=e) b;clear a d h b;go_enter Tryz.func78,Tryz.ntmps78
 go_wp2
 go_ret
 exact⟨by simp[f.out],rfl⟩
end Go.Proofs.Y
namespace Go.Hm
open Go Go.RowKit
theorem MapF.mono{P:Program}{k:TypeId}{w:World}{b n m:Nat}{f:List Int->Option (Int × Int)}(h:MapF P k w b n f)(d:n<=m):MapF P k w b m f:=by obtain⟨D,a,c⟩:=h;exact⟨D,a.mono d,c⟩
theorem MapF.new{P:Program}{k:TypeId}{w w':World}{b n:Nat}{f:List Int->Option (Int × Int)}(h:MapF P k w b n f)(a:New w w'):MapF P k w' b n f:=
 h.kept (row:=none) ⟨a.os,a.tape,a.output,a.size,fun j c _=>a.block j c⟩ (by simp)
end Go.Hm
namespace Go.Proofs.Y
open Go.RowKit Go.Hm
theorem z8m(W:World)(n:Int):(Instr.makeMap 143 (some (.int .i64 n))).run Tryz.prog W= .ok (.map (some W.heap.size)) (W.alloc (.map #[] 0)):=by simp[Instr.makeMap,run_underlying z8l,asInt,asIntOf,Result.andThen]
theorem z8n{w:World}{A:Option Addr}{n c:Nat}{D:List zds}(h:RowsAt w A n c D)(hn:n<=9223372036854775806)(h8:∀p∈bytesOf D,(∀x∈p,x<256)/\p.length<=10000000)(hC:ConstIn w):
 Calls Tryz.prog 77 #[.slice A n c,.func (.func 25) #[] #[]] w fun e w'=>e= .returned (.map (some w.heap.size))/\MapF Tryz.prog 35 w' w.heap.size n (zc8 (bytesOf D) D.length)/\New w w':=by
 obtain rfl:=h.len;have N:=qwk h;have H8:=qwk h8;have HC:=qwk hC;have HB:=qwk (zd6 D);have a2:=z8m;have b0:New w (w.alloc (.map #[] 0)):=(qwd _ _).alloc (qq0 _) _;have M0:Hid (MapF Tryz.prog 35 (w.alloc (.map #[] 0)) w.heap.size 0 (zc8 (bytesOf D) 0)):=qwk (MapF.made w);have B0:=qwk b0;clear h h8 hC b0;go_enter Tryz.func77,Tryz.ntmps77
 go_wp2
 go_loopw [16] (fun i wr=>∃k:Nat,k<=D.length/\i= .int .i64 (k:Int)/\Hid (MapF Tryz.prog 35 wr w.heap.size k (zc8 (bytesOf D) k))/\Hid (New w wr)) (fun i _=>D.length-(intOf i).toNat)
 case atStart=>exact⟨0,by omega,rfl,M0,B0⟩
 case round=>
  clear M0 B0;obtain⟨k,hk,rfl,M,b⟩:=hrel;by_cases t:k<D.length
  ·obtain⟨ad,rfl,_⟩:=N.out.at_ t
   have hc:=N.out.cells t wr b.out;have X:=((N.out.later b.out).parts.at_ t);have e1:=ze3 D k;have g1:=H8.out _ (zf7 (L:=bytesOf D) (k:=k) (by rw[HB.out];exact t));rw[e1] at g1;have a0:=qwk e1;generalize D.getD k (none,0,[])=d at*;have SU:=qwk (zua (c:=d.2.1) X.1 g1.1 X.2.1 g1.2 (HC.out.new b.out));go_wp2_with fail
   refine SU.out.mono ?_;rintro e o ⟨rfl,v⟩;have M1:=M.out.new v;obtain⟨g,q⟩:∃g,g=(za5 .u8 (zef d.2.2)).toArray:=⟨_,rfl⟩;have hz:(za5 .u8 zau).toArray.size=g.size:=by rw[q];simp[za5,zau,zgp]
   have r:(Tryz.prog.info? 35).map (·.size)=some g.size:=by rw[q];exact qdu (zgp _)
   have R:=zfb .u8 (zef d.2.2);rw[<-q] at R⊢;have E:=qwk (show .agg g=zla (zef d.2.2) by rw[q];rfl);have G:=qwk (M1.new (w':=(o.alloc (.cells g 35))) ((qwd _ _).alloc (qq0 _) _));have V:=qwk (za1 (qw1 o 35 g));have F:=qwk (qmt d.2.2);have a1:=qwk X.1;have G8:=qwk g1.1;clear q M1 X e1;have l:∀m,zc8 (bytesOf D) (k+1) m=if m=zef d.2.2 then(match zc8 (bytesOf D) k m with|none=>some ((k:Int),-1)|some p=>if p.2= -1/\(bytesOf D).getD p.1.toNat []≠d.2.2 then some (p.1,(k:Int)) else some p) else zc8 (bytesOf D) k m:=fun m=>by
    rw[zc8,a0.out];all_goals
     by_cases j:m=zef d.2.2
     ·rw[if_pos j,if_pos j]
      cases zc8 (bytesOf D) k m<;> rfl
     ·rw[if_neg j,if_neg j]
   cases hf:zc8 (bytesOf D) k (zef d.2.2) with
   |none=>
    have K:=qwk hf;have y:=qwk (show(fun m=>if m=zef d.2.2 then some ((k:Int),(-1:Int)) else zc8 (bytesOf D) k m)=zc8 (bytesOf D) (k+1) from funext fun m=>by
     rw[l];by_cases j:m=zef d.2.2
     ·rw[if_pos j,if_pos j,j,hf]
     ·rw[if_neg j,if_neg j])
    have s:New (o.alloc (.cells g 35)) ((o.alloc (.cells g 35)).alloc (.cells #[.int .i64 0,.int .i64 0] 146)):=(qwd _ _).alloc (qq0 _) _;have O:=qwk (G.out.new s);have W:=qwk (za1 ((qw1 o 35 g).alloc (.cells #[.int .i64 0,.int .i64 0] 146)));have J:=qwk (qw5 (qw5 b.out v) (qw5 ((qwd _ _).alloc (qq0 _) (.cells g 35)) s));clear hf l s v;go_wp2_with (first
     |(refine wpList_store_row rfl 35 (.tmp 8) (.tmp 23) rfl o.heap.size g rfl rfl _ _ (heap_alloc_new _ _) r hz R ?_;rw[zbj])
     |(refine wpList_load_row rfl 35 (.tmp 8) rfl o.heap.size rfl _ g _ _ V.out zct rfl r ?_)
     |(refine wpList_load_row rfl 35 (.tmp 8) rfl o.heap.size rfl _ g _ _ W.out zct rfl r ?_)
     |(rw[E.out];refine zdk rfl (.tmp 25) (.tmp 26) 143 rfl zk1 z8l (zg5 _) G.out F.out rfl rfl ?_;rw[K.out];simp only[zjh,qui,quj])
     |(rw[E.out];refine zp5 rfl (.tmp 32) (.tmp 33) (.tmp 35) 143 rfl zk1 z8l O.out (by simp only[maxLen];omega) F.out ((k:Int),-1) rfl rfl rfl ?_
       intro w4 z P)
     |fail)
    rw[y.out] at z;have B:=qwk z;have B5:=qwk (zbg J.out P (qq0 _) (qq0 _));clear z P;go_roundw
    case rel=>exact⟨k+1,by omega,by go_num,B,B5⟩
    case measure=>simp[intOf];omega
   |some p=>
    have S:=zp3 (bytesOf D) k (zef d.2.2);rw[hf] at S;obtain⟨a,ha,h1,_⟩:=S;obtain⟨p1,T⟩:=p;obtain rfl:p1=(a:Int):=h1;have C:a<D.length:=by omega
    have s:New (o.alloc (.cells g 35)) ((o.alloc (.cells g 35)).alloc (.cells #[.int .i64 (a:Int),.int .i64 T] 146)):=(qwd _ _).alloc (qq0 _) _;have O:=qwk (G.out.new s);have W:=qwk (za1 ((qw1 o 35 g).alloc (.cells #[.int .i64 (a:Int),.int .i64 T] 146)));have H:=qw5 (qw5 b.out v) (qw5 ((qwd _ _).alloc (qq0 _) (.cells g 35)) s);have ca:=N.out.cells C _ H;have Y:=((N.out.later H).parts.at_ C).1;have Rd:=qwk (qxj a1.out (qw5 v (qw5 ((qwd _ _).alloc (qq0 _) (.cells g 35)) s)));have Q:=(H8.out _ (zf7 (L:=bytesOf D) (k:=a) (by rw[HB.out];exact C))).1;have Z:=ze3 D a;have f:=l (zef d.2.2);rw[if_pos rfl,hf] at f;simp only[qrn] at f;rw[Z] at Q f;generalize D.getD a (none,0,[])=x at*;have U:=qwk (zwc (c:=x.2.1) (e:=d.2.1) Y Rd.out Q G8.out);have K:=qwk hf;have J:=qwk H;by_cases u:T= -1
    ·skip
     have d1:(T==(-1:Int))=true:=by rw[beq_iff_eq];exact u
     subst u;by_cases I:x.2.2=d.2.2
     ·rw[decide_eq_true I] at U
      rw[if_neg (fun h=>h.2 I)] at f;have y:=qwk (show zc8 (bytesOf D) k=zc8 (bytesOf D) (k+1) from funext fun m=>by
       by_cases j:m=zef d.2.2
       ·rw[j,hf,f]
       ·rw[l,if_neg j])
      clear hf l f s v Y Q Z H I;go_wp2_with (first
       |(refine wpList_store_row rfl 35 (.tmp 8) (.tmp 23) rfl o.heap.size g rfl rfl _ _ (heap_alloc_new _ _) r hz R ?_;rw[zbj])
       |(refine wpList_load_row rfl 35 (.tmp 8) rfl o.heap.size rfl _ g _ _ V.out zct rfl r ?_)
       |(refine wpList_load_row rfl 35 (.tmp 8) rfl o.heap.size rfl _ g _ _ W.out zct rfl r ?_)
       |(rw[E.out];refine zdk rfl (.tmp 25) (.tmp 26) 143 rfl zk1 z8l (zg5 _) G.out F.out rfl rfl ?_;rw[K.out];simp only[zjh,qsi,quk])
       |(go_at_call 78;(with_reducible refine U.out.mono ?_);rintro e5 w5 ⟨rfl,rfl⟩)
       |fail)
      have B:=qwk (show MapF Tryz.prog 35 _ w.heap.size (k+1) (zc8 (bytesOf D) (k+1)) by rw[<-y.out];exact O.out.mono (by omega));go_roundw
      case rel=>exact⟨k+1,by omega,by go_num,B,J⟩
      case measure=>simp[intOf];omega
     ·rw[decide_eq_false I] at U
      rw[if_pos ⟨rfl,I⟩] at f;have y:=qwk (show(fun m=>if m=zef d.2.2 then some ((a:Int),(k:Int)) else zc8 (bytesOf D) k m)=zc8 (bytesOf D) (k+1) from funext fun m=>by
       by_cases j:m=zef d.2.2
       ·rw[if_pos j,j,f]
       ·rw[l,if_neg j,if_neg j])
      clear hf l f s v Y Q Z H I;go_wp2_with (first
       |(refine wpList_store_row rfl 35 (.tmp 8) (.tmp 23) rfl o.heap.size g rfl rfl _ _ (heap_alloc_new _ _) r hz R ?_;rw[zbj])
       |(refine wpList_load_row rfl 35 (.tmp 8) rfl o.heap.size rfl _ g _ _ V.out zct rfl r ?_)
       |(refine wpList_load_row rfl 35 (.tmp 8) rfl o.heap.size rfl _ g _ _ W.out zct rfl r ?_)
       |(rw[E.out];refine zdk rfl (.tmp 25) (.tmp 26) 143 rfl zk1 z8l (zg5 _) G.out F.out rfl rfl ?_;rw[K.out];simp only[zjh,qsi,quk])
       |(go_at_call 78;(with_reducible refine U.out.mono ?_);rintro e5 w5 ⟨rfl,rfl⟩)
       |(rw[E.out];refine zp5 rfl (.tmp 49) (.tmp 50) (.tmp 54) 143 rfl zk1 z8l O.out (by simp only[maxLen];omega) F.out ((a:Int),(k:Int)) rfl rfl rfl ?_
         intro w4 z P)
       |fail)
      rw[y.out] at z;have B:=qwk z;have B5:=qwk (zbg J.out P (qq0 _) (qq0 _));clear z P;go_roundw
      case rel=>exact⟨k+1,by omega,by go_num,B,B5⟩
      case measure=>simp[intOf];omega
    ·have d1:(T==(-1:Int))=false:=by rw[beq_eq_false_iff_ne];exact u
     rw[if_neg (fun h=>u h.1)] at f;have y:=qwk (show zc8 (bytesOf D) k=zc8 (bytesOf D) (k+1) from funext fun m=>by
      by_cases j:m=zef d.2.2
      ·rw[j,hf,f]
      ·rw[l,if_neg j])
     clear hf l f s v Y Q Z H;go_wp2_with (first
      |(refine wpList_store_row rfl 35 (.tmp 8) (.tmp 23) rfl o.heap.size g rfl rfl _ _ (heap_alloc_new _ _) r hz R ?_;rw[zbj])
      |(refine wpList_load_row rfl 35 (.tmp 8) rfl o.heap.size rfl _ g _ _ V.out zct rfl r ?_)
      |(rw[E.out];refine zdk rfl (.tmp 25) (.tmp 26) 143 rfl zk1 z8l (zg5 _) G.out F.out rfl rfl ?_;rw[K.out];simp only[zjh,qsi,quk])
      |fail)
     have B:=qwk (show MapF Tryz.prog 35 _ w.heap.size (k+1) (zc8 (bytesOf D) (k+1)) by rw[<-y.out];exact O.out.mono (by omega));go_roundw
     case rel=>exact⟨k+1,by omega,by go_num,B,J⟩
     case measure=>simp[intOf];omega
  ·obtain rfl:k=D.length:=by omega
   go_wp2
   go_ret
   exact⟨rfl,M.out,b.out⟩
theorem qgm{w:World}{g:Nat}{S:St}{t:Int}(h:CurS w g S)(h1:(zbn (lenS 65536 S).2).1≠1)(ht: ¬(0<=t/\t<=3)):
 Calls Tryz.prog 138 #[.pointer (some ⟨g,0,none⟩),.int .i64 t] w
  (zpf zb4 g none w):=by
 have a4:=zdo (m:=65536) S (by omega) h.ok;have a5:=h.lt;have ha:New w (w.alloc (.cells (zci zb4).toArray 133)):=(qwd _ _).alloc (qq0 _) _;have h0:=h.below ha;have L1:=qwk (zei (m:=65536) h0 (by omega) (by omega));have E:Blk (w.alloc (.cells (zci zb4).toArray 133)) w.heap.size 133 (zci zb4).toArray:=qw1 _ _ _;generalize lenS 65536 S=H at*;obtain⟨n,S1⟩:=H;dsimp only at*;have L:=zo9 (S:=S1);have K:zcj t ((n:Int),false,zbb,zbb)=false:=by unfold zcj;rw[if_pos (by dsimp only;omega)]
 have SR:=fun(W:World)=>zh0 (w:=W) (t:=t) (s:=((n:Int),false,zbb,zbb)) (by unfold zew zbb;simp)
 rw[K] at SR;have SR:Hid (∀W,Calls Tryz.prog 133 #[.int .i64 t,.agg #[.int .i64 (n:Int),.bool false,.bool false,.int .i64 0,.string ⟨#[]⟩,.int .i64 0,.int .i64 0,.bool false,.int .i64 0,.string ⟨#[]⟩,.int .i64 0,.int .i64 0]] W (zap (.bool false) W)):=qwk SR;clear K h;go_enter Tryz.func138,Tryz.ntmps138
 go_wp2_with fail
 refine L1.out.mono ?_;rintro e w1 ⟨rfl,l,g1⟩;have L:=L l.ok;have C2:=qwk (zjm (l.below ((qwd _ _).alloc (qq0 _) (.cells #[.int .i64 (n:Int),.bool false,.bool false,.int .i64 0,.string ⟨#[]⟩,.int .i64 0,.int .i64 0,.bool false,.int .i64 0,.string ⟨#[]⟩,.int .i64 0,.int .i64 0] 133))));have a1:=g1.size;have G:=(E.grown g1 (by intro e;injection e with e;omega)).alloc (.cells #[.int .i64 (n:Int),.bool false,.bool false,.int .i64 0,.string ⟨#[]⟩,.int .i64 0,.int .i64 0,.bool false,.int .i64 0,.string ⟨#[]⟩,.int .i64 0,.int .i64 0] 133);have C:=qw1 w1 133 #[.int .i64 (n:Int),.bool false,.bool false,.int .i64 0,.string ⟨#[]⟩,.int .i64 0,.int .i64 0,.bool false,.int .i64 0,.string ⟨#[]⟩,.int .i64 0,.int .i64 0];have G1:=(qw9 ha (g:=g)).trans (g1.trans (qw9 ((qwd _ w1).alloc (qq0 _) (.cells #[.int .i64 (n:Int),.bool false,.bool false,.int .i64 0,.string ⟨#[]⟩,.int .i64 0,.int .i64 0,.bool false,.int .i64 0,.string ⟨#[]⟩,.int .i64 0,.int .i64 0] 133))));generalize zbn S1=Bq at*;obtain⟨y,S2⟩:=Bq;dsimp only at*;clear L1 h0 E l g1 ha;go_wp2_with fail
 refine C2.out.mono ?_;rintro e w2 ⟨rfl,b,J⟩;have a2:=J.size;simp only[qww] at a1 a2;have q:=G.grown J (by intro e;injection e with e;omega);have u:=C.grown J (by intro e;injection e with e;omega);have x:=G1.trans J;clear C2 G C G1 J;obtain⟨U,V,X,Y,Z,x5,x6,x7,x8,x9,i,j⟩:=zbd u;have y1:((y:Int)==1)=false:=beq_eq_false_iff_ne.2 (by omega);by_cases hy:1<y
 ·have t1:decide ((1:Int)<(y:Int))=true:=by simp;omega
  have F:=qwk (zqp b);go_wp2_with fail
  refine F.out.mono ?_;rintro e w3 ⟨rfl,f,k⟩;have M:=k.size;have a:=q.grown k (by intro e;injection e with e;omega);have z:=qwk (x.trans k);have r:=qwk f;clear F q u x k U V X Y Z x5 x6 x7 x8 x9 i j b f
  go_wp2_with (refine zal rfl 133 (.tmp 4) (.tmp 37) rfl w.heap.size _ rfl rfl a (by kernel_rfl) (by simp[zci,zb4,zay]) (by simp[Value.oneCell']) ?_
               intro W5 B o;obtain⟨N,l,b,f,p,O,P,Q,R,T,c,d⟩:=zbd B)
  exact bodyPost_ret (v:=zcm zb4) (by simp[results,Tryz.results138,go_sem,N,l,b,f,p,O,P,Q,R,T,c,d,zcm,zci,zay,zb4,zbb,show zaf []=⟨#[]⟩ from rfl]) rfl ⟨rfl,r.out.keep o a (by omega) (by decide),zbf z.out o (qq0 _)⟩
 ·obtain rfl:y=0:=by omega
  have t1:decide ((1:Int)<((0:Nat):Int))=false:=by simp
  have BD:=qwk (qir b);cases S2 with
  |none=>
   go_wp2_with fail
   refine BD.out.mono ?_;rintro e a3 ⟨rfl,rfl⟩;have F:=qwk (zqp b);go_wp2_with fail
   refine F.out.mono ?_;rintro e w3 ⟨rfl,f,k⟩;have M:=k.size;have a:=q.grown k (by intro e;injection e with e;omega);have z:=qwk (x.trans k);have r:=qwk f;clear F q u x k U V X Y Z x5 x6 x7 x8 x9 i j b f
   go_wp2_with (refine zal rfl 133 (.tmp 4) (.tmp 37) rfl w.heap.size _ rfl rfl a (by kernel_rfl) (by simp[zci,zb4,zay]) (by simp[Value.oneCell']) ?_
                intro W5 B o;obtain⟨N,l,b,f,p,O,P,Q,R,T,c,d⟩:=zbd B)
   exact bodyPost_ret (v:=zcm zb4) (by simp[results,Tryz.results138,go_sem,N,l,b,f,p,O,P,Q,R,T,c,d,zcm,zci,zay,zb4,zbb,show zaf []=⟨#[]⟩ from rfl]) rfl ⟨rfl,r.out.keep o a (by omega) (by decide),zbf z.out o (qq0 _)⟩
  |some S2=>
   go_wp2_with fail
   refine BD.out.mono ?_;rintro e a3 ⟨rfl,rfl⟩;go_wp2_with fail
   refine(SR.out _).mono ?_;rintro e w3 ⟨rfl,A⟩;have M:=A.size;have a:=q.below A q.lt;have D:=u.below A u.lt;have z:=x.trans (qw9 A);have F:=qwk (zqp (b.below A));clear q u x A U V X Y Z x5 x6 x7 x8 x9 i j b;obtain⟨U,V,X,Y,Z,x5,x6,x7,x8,x9,i,j⟩:=zbd D;go_wp2_with fail
   refine F.out.mono ?_;rintro e w4 ⟨rfl,p,g4⟩;have a6:=g4.size;have I:=a.grown g4 (by intro e;injection e with e;omega);have G4:=qwk (z.trans g4);have a0:=qwk p;clear F a D z g4 U V X Y Z x5 x6 x7 x8 x9 i j p
   go_wp2_with (refine zal rfl 133 (.tmp 4) (.tmp 37) rfl w.heap.size _ rfl rfl I (by kernel_rfl) (by simp[zci,zb4,zay]) (by simp[Value.oneCell']) ?_
                intro W5 B o;obtain⟨N,l,b,f,p,O,P,Q,R,T,c,d⟩:=zbd B)
   exact bodyPost_ret (v:=zcm zb4) (by simp[results,Tryz.results138,go_sem,N,l,b,f,p,O,P,Q,R,T,c,d,zcm,zci,zay,zb4,zbb,show zaf []=⟨#[]⟩ from rfl]) rfl ⟨rfl,a0.out.keep o I (by omega) (by decide),zbf G4.out o (qq0 _)⟩
theorem qle{t:Int}{S:St}(f:(zbn (lenS 65536 S).2).1≠1)(j:0<=t/\t<=3)(g:S.ok):getA t S=qmj S:=by
 have i:=zdo (m:=65536) S (by omega) g;unfold getA qat qmj;rw[if_neg f];generalize lenS 65536 S=H at*;obtain⟨n,d⟩:=H;dsimp only at*;generalize zbn d=c at*;obtain⟨y,e⟩:=c;dsimp only at*;have a:zcj t ((n:Int),false,zbb,zbb)=true:=by unfold zcj;rw[if_neg (by dsimp only;omega)];simp
 rw[a];by_cases b:y=0
 ·subst b
  cases e<;> simp
 ·rw[if_neg (fun h=>by omega),if_neg (fun h=>b h.1)]
theorem qgn{t:Int}{S:St}(a: ¬(0<=t/\t<=3)):getA t S=(zb4,none):=by unfold getA;rw[if_neg];rintro⟨_,_,h⟩;exact a (zkd h).1
theorem qau{w:World}{g:Nat}{S:St}{t:Int}(h:CurS w g S)(c:(S.getD []).length<=140737488351232):
 Calls Tryz.prog 138 #[.pointer (some ⟨g,0,none⟩),.int .i64 t] w (zpf (getA t S).1 g (getA t S).2 w):=by
 by_cases a:(zbn (lenS 65536 S).2).1=1
 ·exact qgl h a c
 ·by_cases b:0<=t/\t<=3
  ·rw[qle a b h.ok]
   exact qld h a b
  ·rw[qgn b]
   exact qgm h a b
theorem zex:∀(k n:Nat),n<=k-> ∀x∈vp n,x<256:=by
 intro k;induction k with
 |zero=>
  intro n b x a;obtain rfl:n=0:=by omega
  rw[zgj (by omega)] at a;simp at a;omega
 |succ k c=>
  intro n b x a;by_cases h:n<128
  ·rw[zgj h] at a
   simp at a;omega
  ·rw[zgk (by omega)] at a
   rcases qsm.1 a with rfl|a
   ·omega
   ·exact c _ (by omega) x a
theorem z5n{y:Nat}{r:List Nat}:zbn (some (y::r))=(y,some r):=rfl
theorem qav{t:Int}{l:List zab}(d:∀c∈l,∀z∈c.2.2.1,z<256):∀x∈plB t l,x<256:=by
 intro x a;unfold plB at a;split at a
 ·exact zhp _ _ x a
 ·obtain⟨c,b,a⟩:=qtj.1 a
  unfold plE at a;split at a
  ·exact zhp _ _ x a
  ·split at a
   ·rcases qr5.1 a with h|h
    ·exact zex _ _ (qq0 _) x h
    ·exact d c b x h
   ·split at a
    ·rcases qr5.1 a with h|h
     ·exact zex _ _ (qq0 _) x h
     ·exact zex _ _ (qq0 _) x h
    ·simp at a
theorem z2m{t:Int}:∀(k:Nat) (S:St),S.ok-> ∀c∈(rdL t k S).1,zaj c
 |0,_,_,c,a=>by simp[rdL] at a
 |_+1,none,_,c,a=>by simp[rdL] at a
 |k+1,some l,b,c,a=>by
  simp only[rdL,qsm] at a;rcases a with rfl|a
  ·exact z9w b
  ·exact z2m k _ (qm4 b) c a
theorem z0d{t:Int}{b:List Nat}{n:Int}(d:∀x∈b,x<256):∃o,IsPl zaj t b n o:=by
 by_cases f:0<=t/\t<=3/\0<=n/\n<=65536
 ·obtain⟨m,rfl⟩:=qsu f.2.2.1
  by_cases g:t=1
  ·subst g
   exact⟨_,zxa d⟩
  ·obtain⟨a,S,e⟩:∃a S,rdL t m (some b)=(a,S):=⟨_,_,rfl⟩
   refine⟨_,z2c (by omega) (by omega) (qxp d) e fun c h=>?_⟩;have:=z2m (t:=t) m (some b) (qxp d);rw[e] at this;exact this c h
 ·exact⟨_,qar f⟩
theorem qni{t:Int}{l:List zab}{b:List Nat}{n:Int}(a:∀c∈l,zaj c)(g:(l.length:Int)=n)(h:plO t l=some b):plD t b n=some l:=by
 have e:∀x∈b,x<256:=by rw[<-(plO_iff.1 h).2];exact qav fun c f=>(a c f).1.2
 obtain⟨o,d⟩:=z0d (t:=t) (n:=n) e;rw[<-qas d];exact d.compl l a g h
theorem z2n{l:List Nat}{t:Int}{s:zdp}:(putS l t s).length<=l.length+140000:=by
 unfold putS;split
 ·rename_i h
  have e:=(zkd h).2;have b:=zae (n:=s.1.toNat) (by omega);split
  ·rename_i a
   have c:=zpe h a;have d:=zae (n:=(zkw t s).length) (by omega);simp only[qrp,qr1,qub];omega
  ·simp only[qrp,qr1,qub]
   omega
 ·omega
theorem qaw{t:Int}{S:St}:statData (getA t S).1:=by
 have a:zaj zbb:=⟨⟨by simp[zbb],by simp[zbb]⟩,by simp[zbb],by simp[zbb]⟩;unfold getA;split
 ·unfold qat
  split
  ·exact zs8 t _
  ·exact⟨a,a⟩
 ·exact⟨a,a⟩
theorem zu1{t:Int}{S S1 S2:St}{N y:Nat}(c:lenS 65536 S=(N,S1))(d:zbn S1=(y,S2)):qat t S=(if y=1 then(((N:Int),true,(zix t S2).1.1,(zix t S2).1.2),(zix t S2).2) else(((N:Int),false,zbb,zbb),S2)):=by
 have a:(lenS 65536 S).1=N:=by rw[c]
 have b:(zbn (lenS 65536 S).2)=(y,S2):=by rw[c];exact d
 unfold qat;rw[b,a]
theorem zu2{t:Int}{S S1 S2:St}{N y:Nat}(a:lenS 65536 S=(N,S1))(c:zbn S1=(y,S2)):getA t S=if y<=1/\(qat t S).2≠none/\zcj t (qat t S).1=true then qat t S else(zb4,none):=by
 have b:(zbn (lenS 65536 S).2)=(y,S2):=by rw[a];exact c
 unfold getA;rw[b]
theorem qgo{t:Int}{s:zdp}(a:zcj t s=true)(j:statData s)(r:List Nat)(x:r.length<=140737488351232):getA t (some (putS [] t s++r))=(s,some r):=by
 have i:=(zkd a).2;obtain⟨n,b,p,q⟩:=s;dsimp only at i;obtain⟨N,rfl⟩:=qsu i.1;have u:putS [] t ((N:Int),b,p,q)=if b then vp N++[1]++vp (zkw t ((N:Int),b,p,q)).length++zkw t ((N:Int),b,p,q) else vp N++[0]:=by unfold putS;rw[if_pos a];simp
 have d:=fun e=>zpe a (show b=true from e)
 have f:=fun e=>qam a (show b=true from e)
 have o:=fun e=>zke a (show b=true from e)
 have v:zkw t ((N:Int),b,p,q)=plB t [p,q]:=rfl;rw[u];generalize zkw t ((N:Int),b,p,q)=E at*;cases b with
 |true=>
  have d:=d rfl;have f:=f rfl;have g:lenS 65536 (some (vp N++[1]++vp E.length++E++r))=(N,some (1::(vp E.length++(E++r)))):=by
   have:vp N++[1]++vp E.length++E++r=vp N++(1::(vp E.length++(E++r))):=by simp
   rw[this];exact zb9 N _ (by omega) (by omega)
  have k:zix t (some (vp E.length++(E++r)))=((p,q),some r):=by
   have m:lenS (((some (vp E.length++(E++r)):St).getD []).length:Int) (some (vp E.length++(E++r)))=(E.length,some (E++r)):=by
    have:=zae (n:=E.length) (by omega);refine zb9 _ _ ?_ ?_
    ·simp only[qsi,qrp];omega
    ·simp only[qsi,qrp];omega
   unfold zix;rw[m];dsimp only;rw[zea];dsimp only;rw[qni (l:=[p,q]) (fun c h=>by
    simp at h;rcases h with rfl|rfl
    ·exact j.1
    ·exact j.2) (by rfl) (plO_iff.2 ⟨f,v.symm⟩)]
  simp only[if_true];rw[zu2 g rfl,zu1 g rfl,if_pos rfl,k];dsimp only;rw[if_pos ⟨by omega,by simp,a⟩]
 |false=>
  have g:lenS 65536 (some (vp N++[0]++r))=(N,some (0::r)):=by
   have:vp N++[0]++r=vp N++(0::r):=by simp
   rw[this];exact zb9 N _ (by omega) (by omega)
  have w:p=zbb/\q=zbb:=by
   unfold zcj at a;split at a
   ·simp at a
   ·simpa using a
  obtain⟨rfl,rfl⟩:=w;simp only[qvr,if_false];rw[zu2 g rfl,zu1 g rfl,if_neg (show¬(0:Nat)=1 by omega)];rw[if_pos ⟨by omega,by simp,a⟩]
theorem qax{t:Int}{b r:List Nat}{s:zdp}(E:∀x∈b,x<256)(h:getA t (some b)=(s,some r)):zcj t s=true/\putS [] t s++r=b:=by
 obtain⟨O,q,f⟩:∃N q,lenS 65536 (some b)=(N,q):=⟨_,_,rfl⟩;obtain⟨V,D,c⟩:∃y D,zbn q=(y,D):=⟨_,_,rfl⟩;rw[zu2 f c] at h;split at h
 ·rename_i J
  obtain⟨P,I,o⟩:=J;rw[h] at o;refine⟨o,?_⟩;dsimp only at o;rw[zu1 f c] at h;clear I;rcases zbx 65536 (some b) (qxp E) with k|⟨N,L,p,T,_,k⟩
  ·exfalso
   rw[k] at f;injection f with f d;subst f d;rw[zj6] at c;injection c with c d;subst c d;simp at h
  ·injection p with p
   rw[k] at f;injection f with f d;subst f d;cases L with
   |nil=>
    have:zbn (some [])=(0,none):=rfl;rw[this] at c;injection c with c d;subst c d;simp at h
   |cons y C=>
    rw[z5n] at c;injection c with c d;subst c d;by_cases F:y=1
    ·subst F
     simp only[if_true] at h;have w:St.ok (some C):=qxp fun x K=>E x (by rw[p];simp[K])
     unfold zix at h;generalize U:(((some C:St).getD []).length:Int)=m at*;rcases zbx m (some C) w with d|⟨M,G,u,S,_,d⟩
     ·rw[d] at h
      have:(zcv ((0:Nat):Int) none).1=[]:=rfl;split at h
      ·rename_i a H g
       dsimp only at g;rw[this] at g;have g:=(plO_iff.1 (zpg g).2.2).2;injection h with _ h;cases h
      ·injection h with _ h
       cases h
     ·injection u with u
      rw[d] at h;dsimp only at h;split at h
      ·rename_i a H g
       injection h with n e;rcases zcl (M:Int) (some G) with B|⟨l,v,Q,R,B⟩
       ·rw[B] at e;cases e
       ·injection v with v
        subst v;rw[B] at e g;injection e with e;dsimp only at g;rw[qrn] at e g;have A:=(plO_iff.1 (zpg g).2.2).2;have z:(zkw t s)=G.take M:=by rw[<-n];exact A
        have i:s.1.toNat=N:=by rw[<-n];simp
        have j:s.2.1=true:=by rw[<-n]
        unfold putS;rw[if_pos o,j,i,z];simp only[if_true,qrr];rw[qqx,qqy (by omega),<-e,p,u];simp
      ·injection h with _ h
       cases h
    ·rw[if_neg F] at h
     injection h with n e;injection e with e;obtain rfl:y=0:=by omega
     have i:s.1.toNat=N:=by rw[<-n];simp
     have j:s.2.1=false:=by rw[<-n]
     unfold putS;rw[if_pos o,j,i,<-e,p];simp
 ·cases h
end Go.Proofs.Y
namespace Go.Hm
open Go Go.RowKit
abbrev za3:=Int × Int × zdp
def zh1(p:za3):List Value:= .int .i64 p.1:: .int .i64 p.2.1::zci p.2.2
abbrev za6:=Int × List (List za3)
structure FootS where
 cols:List za2
 rows:Int
 groups:List za6
def zi8(t:Int)(nu:Bool)(p:za3)(most:Int):Bool:=
 if p.2.1<1\/most<p.2.1\/p.1<1\/268435456<p.1 then false
 else zcj t p.2.2&&(decide (p.2.2.1<=p.2.1)&&((p.2.2.2.1==decide (p.2.2.1<p.2.1))&&(nu||decide (p.2.2.1=0))))
def zfl(t:Int)(nu:Bool):List za3->Int->Int->Int × Bool
 | [],rows,size=>(size,decide (rows=0))
 |p::l,rows,size=>if zi8 t nu p rows then zfl t nu l (rows-p.2.1) (size+p.1) else(0,false)
def zc0(l:List za3):Int:=(l.map (·.1)).sum
def znt(l:List za3):Int:=(l.map (·.2.1)).sum
def ze0(t:Int)(nu:Bool)(l:List za3)(rows:Int):Prop:=(∀p∈l,zi8 t nu p 65536=true)/\znt l=rows
theorem zll(p:za3)(l:List za3):zc0 (p::l)=p.1+zc0 l:=by simp[zc0]
theorem zh2(p:za3)(l:List za3):znt (p::l)=p.2.1+znt l:=by simp[znt]
theorem pageB_most{t:Int}{nu:Bool}{p:za3}{m:Int}:zi8 t nu p m=true↔(1<=p.2.1/\p.2.1<=m/\1<=p.1/\p.1<=268435456)/\(zcj t p.2.2&&(decide (p.2.2.1<=p.2.1)&&((p.2.2.2.1==decide (p.2.2.1<p.2.1))&&(nu||decide (p.2.2.1=0)))))=true:=by
 unfold zi8;split
 ·rename_i h
  constructor
  ·intro e;cases e
  ·rintro⟨e,_⟩;omega
 ·rename_i h
  constructor
  ·intro e;exact⟨by omega,e⟩
  ·exact fun e=>e.2
theorem ztf{t:Int}{nu:Bool}{p:za3}{m k:Int}(h:zi8 t nu p m=true)(c:p.2.1<=k):zi8 t nu p k=true:=by obtain⟨b,a⟩:=pageB_most.1 h;exact pageB_most.2 ⟨by omega,a⟩
theorem zfy{t:Int}{nu:Bool}:∀{l:List za3},(∀p∈l,zi8 t nu p 65536=true)->0<=znt l/\(l.length:Int)<=znt l/\0<=zc0 l/\zc0 l<=l.length*268435456
 | [],_=>by simp[znt,zc0]
 |p::l,h=>by
  have h1:=(pageB_most.1 (h p (by simp))).1;have:=zfy (l:=l) fun q a=>h q (by simp[a])
  rw[zh2,zll,qr1];omega
theorem ztg{t:Int}{nu:Bool}:∀(l:List za3) (rows size:Int),rows<=65536->((zfl t nu l rows size).2=true↔ze0 t nu l rows)/\(ze0 t nu l rows->(zfl t nu l rows size).1=size+zc0 l)
 | [],rows,size,_=>by
   simp[zfl,ze0,znt,zc0];omega
 |p::l,rows,size,hr=>by
  unfold zfl;by_cases hp:zi8 t nu p rows=true
  ·rw[if_pos hp]
   have h1:=(pageB_most.1 hp).1;have f:=ztg (t:=t) (nu:=nu) l (rows-p.2.1) (size+p.1) (by omega);have c:ze0 t nu (p::l) rows↔ze0 t nu l (rows-p.2.1):=by
    unfold ze0;rw[zh2];constructor
    ·rintro⟨a,b⟩
     exact⟨fun q d=>a q (by simp[d]),by omega⟩
    ·rintro⟨a,b⟩
     refine⟨fun q d=>?_,by omega⟩;rcases qsm.1 d with rfl|d
     ·exact ztf hp (by omega)
     ·exact a q d
   refine⟨f.1.trans c.symm,fun g=>?_⟩;rw[f.2 (c.1 g),zll];omega
  ·rw[if_neg hp]
   have e: ¬ze0 t nu (p::l) rows:=by
    rintro⟨a,b⟩;have h1:=a p (by simp);have i:=zfy (l:=l) fun q d=>a q (by simp[d])
    rw[zh2] at b;exact hp (ztf h1 (by omega))
   exact⟨⟨fun h=>by simp at h,fun h=>absurd h e⟩,fun h=>absurd h e⟩
def zco(g:za6):Int:=(g.2.map zc0).sum
def GroupOk(cols:List za2)(g:za6):Prop:=
 1<=g.1/\g.2.length=cols.length/\ ∀i,i<cols.length->ze0 (cols.getD i ([],0,false)).2.1 (cols.getD i ([],0,false)).2.2 (g.2.getD i []) g.1
def zbs(F:FootS):Prop:=
 zq6 F.cols/\(∀g∈F.groups,GroupOk F.cols g)/\(F.groups.map (·.1)).sum=F.rows/\F.rows<=65536/\(F.groups.map zco).sum<=1073741824
def zfj(t:Int)(p:za3):List Nat:=vp p.1.toNat++vp p.2.1.toNat++Go.Hm.putS [] t p.2.2
def zf4(t:Int)(l:List za3):List Nat:=vp l.length++l.flatMap (zfj t)
def zbu:List za2->List (List za3)->List Nat
 |c::cs,l::ls=>zf4 c.2.1 l++zbu cs ls
 |_,_=>[]
def zc4(cols:List za2)(g:za6):List Nat:=vp g.1.toNat++zbu cols g.2
def zek(F:FootS):List Nat:=putC [] F.cols++vp F.rows.toNat++vp F.groups.length++F.groups.flatMap (zc4 F.cols)
open Go Go.RowKit
abbrev ChD:=Option Addr × Nat × List za3
def chV(x:ChD):List Value:=[.slice x.1 x.2.2.length x.2.1]
abbrev GrD:=Int × Option Addr × Nat × List ChD
def grV(g:GrD):List Value:=[.int .i64 g.1,.slice g.2.1 g.2.2.2.length g.2.2.1]
def grP(g:GrD):za6:=(g.1,g.2.2.2.map (·.2.2))
theorem zec{w:World}{g:Nat}{ty:TypeId}{k l m n o p q r s t a b c d:Value}(h:Blk w g ty #[k,l,m,n,o,p,q,r,s,t,a,b,c,d]):w.cell? ⟨g,0,none⟩=some k/\w.cell? ⟨g,1,none⟩=some l/\w.cell? ⟨g,2,none⟩=some m/\w.cell? ⟨g,3,none⟩=some n/\w.cell? ⟨g,4,none⟩=some o/\w.cell? ⟨g,5,none⟩=some p/\w.cell? ⟨g,6,none⟩=some q/\w.cell? ⟨g,7,none⟩=some r/\w.cell? ⟨g,8,none⟩=some s/\w.cell? ⟨g,9,none⟩=some t/\w.cell? ⟨g,10,none⟩=some a/\w.cell? ⟨g,11,none⟩=some b/\w.cell? ⟨g,12,none⟩=some c/\w.cell? ⟨g,13,none⟩=some d:=by have u:=h.cell 0;have v:=h.cell 1;have x:=h.cell 2;have y:=h.cell 3;have z:=h.cell 4;have A:=h.cell 5;have B:=h.cell 6;have C:=h.cell 7;have D:=h.cell 8;have E:=h.cell 9;have e:=h.cell 10;have f:=h.cell 11;have i:=h.cell 12;have j:=h.cell 13;simp at u v x y z A B C D E e f i j;exact⟨u,v,x,y,z,A,B,C,D,E,e,f,i,j⟩
def zu5(p:za3):Value:= .agg (zh1 p).toArray
def qpw(c:za2):Value:= .agg (zle c).toArray
end Go.Hm
namespace Go.Proofs.Y
open Go.RowKit Go.Hm
def PageFine(p:za3):Prop:=((CellFine p.2.2.2.2.1/\CellFine p.2.2.2.2.2)/\ -9223372036854775808<=p.2.2.1/\p.2.2.1<=9223372036854775807)/\(-9223372036854775808<=p.1/\p.1<=9223372036854775807)/\ -9223372036854775808<=p.2.1/\p.2.1<=9223372036854775807
theorem PageFine.stat{p:za3}(h:PageFine p):zew p.2.2:=⟨h.1.1.1.1,h.1.1.2.1⟩
theorem zu6{w:World}{c:za2}{p:za3}{most:Int}(T:zew p.2.2):
 Calls Tryz.prog 131 #[qpw c,zu5 p,.int .i64 most] w (zap (.bool (zi8 c.2.1 c.2.2 p most)) w):=by
 obtain⟨nm,t,x⟩:=c;have C:=fun(W:World)=>zh0 (w:=W) (t:=t) T
 clear T;obtain⟨M,v⟩:∃M,M=zi8 t x p most:=⟨_,rfl⟩;dsimp only;rw[<-v];unfold zi8 at v;generalize zcj t p.2.2=R at*;obtain⟨d,rw,b,f,⟨g,i,j,k,l⟩,⟨m,n,o,q,r⟩⟩:=p;dsimp only at v C;have C:Hid (∀W,Calls Tryz.prog 133 #[.int .i64 t,.agg #[.int .i64 b,.bool f,.bool g,.int .i64 i,.string (zaf j),.int .i64 k,.int .i64 l,.bool m,.int .i64 n,.string (zaf o),.int .i64 q,.int .i64 r]] W (zap (.bool R) W)):=qwk C;show Calls Tryz.prog 131 #[.agg #[.string (zaf nm),.int .i64 t,.bool x],.agg #[.int .i64 d,.int .i64 rw,.int .i64 b,.bool f,.bool g,.int .i64 i,.string (zaf j),.int .i64 k,.int .i64 l,.bool m,.int .i64 n,.string (zaf o),.int .i64 q,.int .i64 r],.int .i64 most] w (zap (.bool M) w);have s:=(qw1 w 71 #[.string (zaf nm),.int .i64 t,.bool x]).alloc (.cells #[.int .i64 d,.int .i64 rw,.int .i64 b,.bool f,.bool g,.int .i64 i,.string (zaf j),.int .i64 k,.int .i64 l,.bool m,.int .i64 n,.string (zaf o),.int .i64 q,.int .i64 r] 135);have u:=qw1 (w.alloc (.cells #[.string (zaf nm),.int .i64 t,.bool x] 71)) 135 #[.int .i64 d,.int .i64 rw,.int .i64 b,.bool f,.bool g,.int .i64 i,.string (zaf j),.int .i64 k,.int .i64 l,.bool m,.int .i64 n,.string (zaf o),.int .i64 q,.int .i64 r];have P:=zzx w (.cells #[.string (zaf nm),.int .i64 t,.bool x] 71) (.cells #[.int .i64 d,.int .i64 rw,.int .i64 b,.bool f,.bool g,.int .i64 i,.string (zaf j),.int .i64 k,.int .i64 l,.bool m,.int .i64 n,.string (zaf o),.int .i64 q,.int .i64 r] 135);simp only[qww] at u;obtain⟨U,V,X,Y,Z,x5,x6,x7,x8,x9,G,H,I,J⟩:=zec u;obtain⟨y0,y1,y2⟩:=zan s;by_cases a:rw<1\/most<rw\/d<1\/268435456<d
 ·rw[if_pos a] at v
  have N:=qwk v;clear v C;by_cases h1:rw<1;all_goals try by_cases h2:most<rw
  all_goals try by_cases h3:d<1
  all_goals try(have h4:268435456<d:=by omega)
  all_goals
   clear a;go_enter Tryz.func131,Tryz.ntmps131
   go_wp2
   go_ret
   exact⟨by rw[N.out];rfl,P⟩
 ·rw[if_neg a] at v
  have h1: ¬rw<1:=fun h=>a (by omega)
  have h2: ¬most<rw:=fun h=>a (by omega)
  have h3: ¬d<1:=fun h=>a (by omega)
  have h4: ¬268435456<d:=fun h=>a (by omega)
  have N:=qwk v;clear v a;have O:New ((w.alloc (.cells #[.string (zaf nm),.int .i64 t,.bool x] 71)).alloc (.cells #[.int .i64 d,.int .i64 rw,.int .i64 b,.bool f,.bool g,.int .i64 i,.string (zaf j),.int .i64 k,.int .i64 l,.bool m,.int .i64 n,.string (zaf o),.int .i64 q,.int .i64 r] 135)) (((w.alloc (.cells #[.string (zaf nm),.int .i64 t,.bool x] 71)).alloc (.cells #[.int .i64 d,.int .i64 rw,.int .i64 b,.bool f,.bool g,.int .i64 i,.string (zaf j),.int .i64 k,.int .i64 l,.bool m,.int .i64 n,.string (zaf o),.int .i64 q,.int .i64 r] 135)).alloc (.cells #[.int .i64 b,.bool f,.bool g,.int .i64 i,.string (zaf j),.int .i64 k,.int .i64 l,.bool m,.int .i64 n,.string (zaf o),.int .i64 q,.int .i64 r] 133)):=(qwd _ _).alloc (qq0 _) _;have B:=qw1 ((w.alloc (.cells #[.string (zaf nm),.int .i64 t,.bool x] 71)).alloc (.cells #[.int .i64 d,.int .i64 rw,.int .i64 b,.bool f,.bool g,.int .i64 i,.string (zaf j),.int .i64 k,.int .i64 l,.bool m,.int .i64 n,.string (zaf o),.int .i64 q,.int .i64 r] 135)) 133 #[.int .i64 b,.bool f,.bool g,.int .i64 i,.string (zaf j),.int .i64 k,.int .i64 l,.bool m,.int .i64 n,.string (zaf o),.int .i64 q,.int .i64 r];simp only[qww] at B;obtain⟨z0,z1,z2,z3,z4,z5,z6,z7,z8,z9,K,L⟩:=zbd B;have s:=s.below O s.lt;have u:=u.below O u.lt;have Q:=qw5 P O;obtain⟨v0,v1,v2⟩:=zan s;have y:=qwk s;have z:=qwk u;have A:=qwk B;have D:=qwk Q;clear O P s u B Q;go_enter Tryz.func131,Tryz.ntmps131
  go_wp2_with fail
  refine(C.out _).mono ?_;rintro e w1 ⟨rfl,F⟩;have s:=y.out.below F y.out.lt;have u:=z.out.below F z.out.lt;have B:=A.out.below F A.out.lt;have E:=qw5 D.out F;clear U V X Y Z x5 x6 x7 x8 x9 G H I J y0 y1 y2 v0 v1 v2 z0 z1 z2 z3 z4 z5 z6 z7 z8 z9 K L y z A D F C;obtain⟨U,V,X,Y,Z,x5,x6,x7,x8,x9,G,H,I,J⟩:=zec u;obtain⟨z0,z1,z2,z3,z4,z5,z6,z7,z8,z9,K,L⟩:=zbd B;obtain⟨y0,y1,y2⟩:=zan s;cases R with
  |false=>
   go_wp2
   go_ret
   exact⟨by rw[N.out];rfl,E⟩
  |true=>
   generalize k1:decide (b<=rw)=d1 at*;generalize k2:decide (b<rw)=d2 at*;generalize k3:decide (b=0)=S at*;have k4:(b==0)=S:=by rw[<-k3];rfl
   cases d1<;> cases d2<;> cases S<;> cases f<;> cases x;all_goals
    go_wp2
    go_ret
    exact⟨by rw[N.out];rfl,E⟩
end Go.Proofs.Y
set_option maxRecDepth 100000
namespace Go.Hm
open Go Go.RowKit
structure FootIn(w:World)(Ac:Option Addr)(cc:Nat)(L:List za2)(Ag:Option Addr)(G:List GrD):Prop where
 cols:Reads w w.heap.size 3 Ac L.length (recs zle L)
 fine:∀x∈L,(∀z∈x.1,z<256)/\x.1.length<=140737488351232
 cap:L.length<=cc
 few:L.length<=4611686018427387903
 groups:Reads w w.heap.size 2 Ag G.length (recs grV G)
 few2:G.length<=4611686018427387903
 chunks:∀g∈G,Reads w w.heap.size 1 g.2.1 g.2.2.2.length (recs chV g.2.2.2)/\g.2.2.2.length<=4611686018427387903
 pages:∀g∈G,∀x∈g.2.2.2,Reads w w.heap.size 14 x.1 x.2.2.length (recs zh1 x.2.2)/\x.2.2.length<=4611686018427387903
theorem FootIn.later{w w':World}{Ac:Option Addr}{cc:Nat}{L:List za2}{Ag:Option Addr}{G:List GrD}(h:FootIn w Ac cc L Ag G)(b:New w w'):FootIn w' Ac cc L Ag G:=
 ⟨qxj h.cols b,h.fine,h.cap,h.few,qxj h.groups b,h.few2,fun g a=>⟨qxj (h.chunks g a).1 b,(h.chunks g a).2⟩,fun g a x c=>⟨qxj (h.pages g a x c).1 b,(h.pages g a x c).2⟩⟩
def zmp(Ac:Option Addr)(cc:Nat)(L:List za2)(rows:Int)(Ag:Option Addr)(cg:Nat)(G:List GrD):Value:= .agg #[.slice Ac L.length cc,.int .i64 rows,.slice Ag G.length cg]
def zb0(L:List za2)(rows:Int)(G:List GrD):FootS:=⟨L,rows,G.map grP⟩
end Go.Hm
namespace Go.Proofs.Y
open Go.RowKit Go.Hm Go.WideShapes Go.ChangeShapes
end Go.Proofs.Y
