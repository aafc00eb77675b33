import Derived.Test.YtbahbnbpmfgimaaGreatDoorBun20
import Derived.Test.YtbahbnbpmfgimaaGreatDoorBun21
set_option maxHeartbeats 4000000
set_option maxRecDepth 100000
namespace Go.Proofs.Y
open Go.RowKit Go.Hm
theorem zgp(l:List Nat):(zef l).length=32:=zg4 _
theorem zfn{s:List Nat}{L:List (List Nat)}{f:List Nat}(h:za9 s L=some f)(a:zik L<=9900000):f.length<=10000000:=by
 unfold za9 at h;split at h
 ·rename_i b
  obtain rfl:=qqf h;rw[zne];unfold zik at a;omega
 ·cases h
theorem z1n{w:World}{s:List Nat}{A:Option Addr}{n c:Nat}{D:List zds}(h:RowsAt w A n c D)(hn:n<=9223372036854775806)(i:∀x∈s,x<256)(U:s.length<=140737488351232)(V:zik (bytesOf D)<=9900000)(u:∀p∈bytesOf D,∀x∈p,x<256)(S:ConstIn w):
 Calls Tryz.prog 31 #[.string (zaf s),.slice A n c] w (zap (zla (zey s (bytesOf D))) w):=by
 have E:New w (w.alloc (.cells (za5 .u8 zau).toArray 35)):=(qwd _ _).alloc (qq0 _) _;have G:=qwk (zwb (h.later E) hn i U (by omega));have O:=qwk S;have B:=qwk (qw1 w 35 (za5 .u8 zau).toArray);have a:zey s (bytesOf D)=zey s (bytesOf D):=rfl;conv at a=>rhs;unfold zey
 replace a:=qwk a;have r:=qwk (fun f (y:za9 s (bytesOf D)=some f)=>qtc (zgn i u y) (zfn y V));generalize za9 s (bytesOf D)=o at*;generalize zey s (bytesOf D)=T at*;obtain⟨Q,b⟩:∃W,W=w.alloc (.cells (za5 .u8 zau).toArray 35):=⟨_,rfl⟩;rw[<-b] at G E B;have C:=qwk b;have N:=qwk E;clear h i U V u S b E;go_enter Tryz.func31,Tryz.ntmps31
 go_wp2_with fail
 have F:=G.out;rw[C.out] at F;refine F.mono ?_;rintro e L y;obtain⟨Z,Y,R,rfl,j,m⟩:=y.u;have m:New Q L:=by rw[C.out];exact m
 have j:Own L Q.heap.size 5 (.slice Z Y R) (zar .u8 (o.getD [])):=by rw[C.out];exact j
 have k:=qwk (B.out.below m B.out.lt);have q:=qwk (qw5 N.out m);clear F G y C N B;cases o with
 |none=>
  have K:T=zau:=by rw[a.out];rfl
  subst K;have H:=qwk (qtc (za1 k.out) (qtc (qdu (l:=zau) (by simp[zau])) (qtc (zfb .u8 zau) (zbi k.out (za5 .u8 zau).toArray))));have z:=qwk (qxb q.out (zbv (g:=w.heap.size) L (za5 .u8 zau).toArray) (qq0 _));clear k q m j a;go_wp2_with (refine wpList_store_row rfl 35 (.tmp 4) (.tmp 15) rfl w.heap.size (za5 .u8 zau).toArray rfl rfl _ _ H.out.1 H.out.2.1 rfl H.out.2.2.1 ?_)
  exact bodyPost_ret (results_cell_row rfl _ _ w.heap.size _ (za5 .u8 zau).toArray (0,0) _ rfl H.out.2.2.2 zct rfl H.out.2.1) rfl ⟨rfl,z.out⟩
 |some f=>
  have K:T=zef f:=by rw[a.out,qtw,qsi]
  subst K;obtain⟨f8,fl⟩:=r.out f rfl;obtain rfl:Y=f.length:=by have:=j.len;rwa[zaa] at this
  have P:=qwk (zua (l:=f) (c:=R) j.reads f8 j.cap.1 (by omega) (O.out.new q.out));clear j m a r O;go_wp2_with fail
  (with_reducible refine P.out.mono ?_)
  rintro e w2 ⟨rfl,J⟩;have I:=k.out.below J k.out.lt;have M:=qw5 q.out J;have X:(za5 .u8 zau).toArray.size=(za5 .u8 (zef f)).toArray.size:=by simp[za5,zau,zgp]
  have H:=qwk (qtc (za1 I) (qtc (qdu (zgp f)) (qtc X (qtc (zfb .u8 (zef f)) (zbi I (za5 .u8 (zef f)).toArray)))));have z:=qwk (qxb M (zbv (g:=w.heap.size) w2 (za5 .u8 (zef f)).toArray) (qq0 _));obtain⟨t,d⟩:∃t,t=(za5 .u8 (zef f)).toArray:=⟨_,rfl⟩;have v:zla (zef f)= .agg t:=by rw[d];rfl
  have HV:=qwk v;rw[<-d] at H z⊢;clear d v;clear k q I M J P X;go_wp2_with (refine wpList_store_row rfl 35 (.tmp 4) (.tmp 17) rfl w.heap.size t rfl rfl _ _ H.out.1 H.out.2.1 H.out.2.2.1 H.out.2.2.2.1 ?_)
  rw[HV.out];exact bodyPost_ret (results_cell_row rfl _ _ w.heap.size _ t (0,0) _ rfl H.out.2.2.2.2 zct rfl H.out.2.1) rfl ⟨rfl,z.out⟩
theorem new_any{w:World}:Calls Tryz.prog 9 #[] w fun e w'=>e= .returned (.pointer (some ⟨w.heap.size,0,none⟩))/\w'=w.alloc (.cells #[.slice none 0 0] 86):=by
 go_enter Tryz.func9,Tryz.ntmps9
 go_wp2
 go_ret
 exact⟨rfl,rfl⟩
open Classical in
noncomputable def plD(t:Int)(b:List Nat)(n:Int):Option (List zab):=
 if h:∃l:List zab,(∀c∈l,zaj c)/\(l.length:Int)=n/\plO t l=some b then some h.choose else none
theorem qas{t:Int}{b:List Nat}{n:Int}{o:Option (List zab)}(h:IsPl zaj t b n o):o=plD t b n:=by
 unfold plD;split
 ·rename_i e
  obtain⟨a,c,d⟩:=e.choose_spec;exact h.compl _ a c d
 ·rename_i e
  cases o with
  |none=>rfl
  |some l=>
   obtain⟨a,c,d⟩:=h.sound l rfl;exact absurd ⟨l,d,a,c⟩ e
theorem zpg{t:Int}{b:List Nat}{n:Int}{l:List zab}(h:plD t b n=some l):(∀c∈l,zaj c)/\(l.length:Int)=n/\plO t l=some b:=by
 unfold plD at h;split at h
 ·rename_i a
  injection h with h;subst h;exact a.choose_spec
 ·cases h
noncomputable def zix(t:Int)(S:St):(zab × zab) × St:=
 match plD t (zcv ((lenS ((S.getD []).length:Int) S).1:Int) (lenS ((S.getD []).length:Int) S).2).1 2 with
 |some [a,b]=>((a,b),(zcv ((lenS ((S.getD []).length:Int) S).1:Int) (lenS ((S.getD []).length:Int) S).2).2)
 |_=>((zbb,zbb),none)
theorem zs8(t:Int)(S:St):zaj (zix t S).1.1/\zaj (zix t S).1.2:=by
 have c:zaj zbb:=⟨⟨by simp[zbb],by simp[zbb]⟩,by simp[zbb],by simp[zbb]⟩;unfold zix;split
 ·rename_i a b h
  have:=(zpg h).1;exact⟨this a (by simp),this b (by simp)⟩
 ·exact⟨c,c⟩
theorem zsc{w w':World}{T:List Nat}{base sz n:Nat}{e:TypeId}{v:Value}{xs:List Value}(h:w.ownsRow base e sz v n xs)(k:Turns T w w')(f:∀x∈T,x<base):w'.ownsRow base e sz v n xs:=by
 refine⟨h.1,?_⟩;rcases h.2 with j|⟨g,b,c,rfl,d,a,rest⟩
 ·exact .inl j
 ·refine .inr ⟨g,b,c,rfl,d,?_,rest⟩
  rw[k.block g (qq2.1 a).1 (fun i=>by have:=f g i;omega)];exact a
theorem z5m{W:World}{base c:Nat}{e:TypeId}{a:Addr}{p q:zab}(h:W.ownsRow base e 5 (.slice (some a) 2 c) 2 (recs zay [p,q])):
 (W.cell? a=some (.bool p.1)/\W.cell? ⟨a.block,a.off+1,none⟩=some (.int .i64 p.2.1)/\W.cell? ⟨a.block,a.off+2,none⟩=some (.string (zaf p.2.2.1))/\W.cell? ⟨a.block,a.off+3,none⟩=some (.int .i64 p.2.2.2.1)/\W.cell? ⟨a.block,a.off+4,none⟩=some (.int .i64 p.2.2.2.2))
 /\W.cell? ⟨a.block,a.off+5,none⟩=some (.bool q.1)/\W.cell? ⟨a.block,a.off+5+1,none⟩=some (.int .i64 q.2.1)/\W.cell? ⟨a.block,a.off+5+2,none⟩=some (.string (zaf q.2.2.1))/\W.cell? ⟨a.block,a.off+5+3,none⟩=some (.int .i64 q.2.2.2.1)/\W.cell? ⟨a.block,a.off+5+4,none⟩=some (.int .i64 q.2.2.2.2):=by
 have r:=qwz h;obtain⟨j,b,_,d⟩:=r.cell5 (i:=0) (by omega);obtain⟨k,f,_,g⟩:=r.cell5 (i:=1) (by omega);injection b with b;injection f with f;subst b f;rw[qto,zgi] at d;exact⟨d,g⟩
theorem z0c{w:World}{g:Nat}(a:Array Value):w.grownBy (w.setRow g a) (some g):=
 ⟨rfl,rfl,rfl,by simp[World.setRow],fun k _ b=>by simp[World.setRow,Array.getElem?_modify];intro e;exact absurd (by rw[e]) b⟩
theorem zk6{P:Program}{o:Oper}{a:Act}{w:World}{K:Act->World->Prop}{Q:Exit->Act->World->Prop}(ty:TypeId)(x y:Operand)(i:o.op= .store ty x y)
 (g:Nat)(b:Array Value)(j:a.eval x= .pointer (some ⟨g,0,none⟩))(k:a.eval y= .agg b){t:TypeId}{c:Array Value}(e:Blk w g t c)(hi:(P.info? ty).map (·.size)=some b.size)
 (d:c.size=b.size)(f:b.all (·.oneCell')=true)
 (h:∀W,Blk W g t b->w.grownBy W (some g)->K (a.put o.dst undef) W):o.wp P a w K Q:=by
 refine wp_store_row ty x y i g b j k t c e hi d f ?_;refine h _ ?_ (z0c b);unfold Blk at e⊢;simp[World.setRow,Array.getElem?_modify,e]
def qgj(p:zab × zab)(g:Nat)(S:St)(w:World)(e:Ending)(w':World):Prop:=e= .returned (.tuple #[zde p.1,zde p.2])/\CurS w' g S/\w.grownBy w' (some g)
theorem qgk{w:World}{g:Nat}{S:St}{t:Int}(h:CurS w g S)(hl:(S.getD []).length<=140737488351232):
 Calls Tryz.prog 151 #[.pointer (some ⟨g,0,none⟩),.int .i64 t] w (qgj (zix t S).1 g (zix t S).2 w):=by
 obtain⟨X,a⟩:∃X,X=zix t S:=⟨_,rfl⟩;rw[<-a];unfold zix at a;have a7:=zdo (m:=((S.getD []).length:Int)) S (by omega) h.ok;have T:=zbo (m:=((S.getD []).length:Int)) h.ok;have a8:=h.lt;have ha:New w ((w.alloc (.cells #[.bool false,.int .i64 0,.string ⟨#[]⟩,.int .i64 0,.int .i64 0] 75)).alloc (.cells #[.bool false,.int .i64 0,.string ⟨#[]⟩,.int .i64 0,.int .i64 0] 75)):=((qwd _ _).alloc (qq0 _) _).alloc (by simp) _;have h0:=h.below ha;have C:=qo1 h0;unfold zuh at C;have C:=qwk C;have L1:=qwk (zei (m:=((S.getD []).length:Int)) h0 (by omega) (by omega));have BA:Blk ((w.alloc (.cells #[.bool false,.int .i64 0,.string ⟨#[]⟩,.int .i64 0,.int .i64 0] 75)).alloc (.cells #[.bool false,.int .i64 0,.string ⟨#[]⟩,.int .i64 0,.int .i64 0] 75)) w.heap.size 75 #[.bool false,.int .i64 0,.string ⟨#[]⟩,.int .i64 0,.int .i64 0]:=(qw1 _ _ _).alloc _;have BB:Blk ((w.alloc (.cells #[.bool false,.int .i64 0,.string ⟨#[]⟩,.int .i64 0,.int .i64 0] 75)).alloc (.cells #[.bool false,.int .i64 0,.string ⟨#[]⟩,.int .i64 0,.int .i64 0] 75)) (w.heap.size+1) 75 #[.bool false,.int .i64 0,.string ⟨#[]⟩,.int .i64 0,.int .i64 0]:=by have:=qw1 (w.alloc (.cells #[.bool false,.int .i64 0,.string ⟨#[]⟩,.int .i64 0,.int .i64 0] 75)) 75 #[.bool false,.int .i64 0,.string ⟨#[]⟩,.int .i64 0,.int .i64 0];rwa[qww] at this
 generalize hL:(S.getD []).length=L at*;generalize lenS (L:Int) S=H at*;obtain⟨n,S1⟩:=H;dsimp only at*;have a9:=zqf (n:=(n:Int)) (S:=S1) (by omega);have a2:=zf8 (n:=(n:Int)) T;have A:=qwk a;have HL:=qwk hL;clear h a hL;go_enter Tryz.func151,Tryz.ntmps151
 go_wp2_with fail
 refine C.out.mono ?_;rintro e b1 ⟨rfl,rfl⟩;go_wp2_with fail
 refine L1.out.mono ?_;rintro e w1 ⟨rfl,s1,J⟩;have a3:=J.size;simp only[qww] at a3;have E:=BA.grown J (by intro e;injection e with e;omega);have I:=BB.grown J (by intro e;injection e with e;omega);have G1:=(qw9 ha (g:=g)).trans J;have T1:=qwk (zqq (n:=(n:Int)) s1 (by omega) (by omega));clear L1 C h0 BA BB s1 J ha;generalize zcv (n:Int) S1=Q at*;obtain⟨x,S2⟩:=Q;dsimp only at*;go_wp2_with fail
 refine T1.out.mono ?_;rintro e w2 ⟨A2,n2,c2,rfl,rfl,o2,s2,M⟩;have b0:=M.size;have d:=E.grown M (by intro e;injection e with e;omega);have f:=I.grown M (by intro e;injection e with e;omega);have Y:=G1.trans M;have PD:=qwk (z0b (t:=t) (n:=2) (c:=c2) o2.reads a2.2 (by omega));clear T1 E I G1 M o2;go_wp2_with fail
 refine PD.out.mono ?_;rintro e V ⟨o,D,h3⟩;have a:=A.out;have D:=qas D;rw[<-D] at a;cases o with
 |none=>
  obtain⟨rfl,k⟩:=h3;dsimp only at a;clear A;have A:=qwk a;have a4:=k.size;have b:=d.below k d.lt;have j:=f.below k f.lt;have B:=Y.trans (qw9 k);have F:=qwk (zqp (s2.below k));clear PD d f Y s2 k D a;go_wp2_with fail
  refine F.out.mono ?_;rintro e w4 ⟨rfl,s4,N⟩;have a5:=N.size;have G:=b.grown N (by intro e;injection e with e;omega);have a0:=j.grown N (by intro e;injection e with e;omega);have G4:=qwk (B.trans N);have a1:=qwk s4;clear F b j B s4 N;go_wp2_with (first
   |(refine zal rfl 75 _ (.tmp 25) rfl w.heap.size _ rfl rfl G (by kernel_rfl) rfl (by simp[Value.oneCell']) ?_
     intro W5 BR s;have r:=a0.grown s (by simp))
   |(refine zal rfl 75 _ (.tmp 26) rfl (w.heap.size+1) _ rfl rfl r (by kernel_rfl) rfl (by simp[Value.oneCell']) ?_
     intro W6 BQ u;have y:=BR.grown u (by simp);obtain⟨x0,x1,x2,x3,x4⟩:=zc3 y;obtain⟨y0,y1,y2,y3,y4⟩:=zc3 BQ))
  have a:=A.out;subst a;have U:=s.size;exact bodyPost_ret (v:= .tuple #[zde zbb,zde zbb]) (by simp[results,Tryz.results151,go_sem,x0,x1,x2,x3,x4,y0,y1,y2,y3,y4,zde,zay,zbb,show zaf []=⟨#[]⟩ from rfl]) rfl ⟨rfl,(a1.out.keep s G (by omega) (by decide)).keep u r (by omega) (by decide),zbf (zbf G4.out s (qq0 _)) u (by omega)⟩
 |some l=>
  obtain⟨A3,n3,c3,rfl,o3,k⟩:=h3;obtain⟨hd,R,-⟩:=zpg D.symm;have P:l.length=2:=by omega
  obtain⟨p,q,rfl⟩:∃p q,l=[p,q]:=by
   match l,P with
   | [p,q],_=>exact⟨p,q,rfl⟩
  dsimp only at a;have r3:=qwz o3;obtain rfl:n3=2:=by have:=r3.lenCell;simpa using this
  obtain⟨ad,rfl,hb,Z,d1,d2,d3,d4⟩:=r3.cell5 (i:=0) (by omega);obtain⟨a6,e,_,d5,d6,d7,d8,d9⟩:=r3.cell5 (i:=1) (by omega);injection e with e;subst e;simp only[qu5,qu1,qto,qt5] at Z d1 d2 d3 d4 d5 d6 d7 d8 d9;obtain⟨p0,p1,p2,p3,p4⟩:=p;obtain⟨q0,q1,q2,q3,q4⟩:=q;dsimp only at Z d1 d2 d3 d4 d5 d6 d7 d8 d9;clear A;have A:=qwk a;have a4:=k.size;have b:=d.below k d.lt;have j:=f.below k f.lt;have B:=qwk (Y.trans (qw9 k));have z:=qwk (s2.below k);clear PD d f Y s2 k D a r3 R P;have HF:=qwk (fun(W:World) (hW:Turns [w.heap.size,w.heap.size+1] V W)=>z5m (zsc o3 hW (by simp;omega)));dsimp only at HF;clear Z d1 d2 d3 d4 d5 d6 d7 d8 d9 o3 C;go_upto_region 6 with(fail)
  refine zav (Turns [w.heap.size,w.heap.size+1]) [(true,0),(true,1),(true,2),(true,3),(true,4),(true,5),(false,6),(false,7)]
   (qxc _) qxd (by kernel_rfl) (by kernel_rfl) (by kernel_rfl) (by kernel_rfl) ?_
  have tD:=Turns.drew [w.heap.size,w.heap.size+1] V;have b:=b.drew;have j:=j.drew;have B:=qwk (B.out.trans (Far.drew g V));have z:=qwk (z.out.below (qw6 V));repeat(first
   |(refine zas rfl rfl (v:=?_) (fun W hW=>?_) ?_
     rotate_left
     ·obtain⟨⟨Z,d1,d2,d3,d4⟩,d5,d6,d7,d8,d9⟩:=HF.out W (tD.trans hW)
      go_simp<;> with_reducible rfl
     simp only[Act.put,qta,qs1,qtb]))
  refine za7 rfl rfl (fun K O=>?_);refine zk6 75 _ (.tmp 29) rfl w.heap.size _ rfl rfl b (by kernel_rfl) rfl (by simp[Value.oneCell']) ?_;intro W5 BR s;have r:=j.grown s (by simp);refine O _ _ (qxf s (by simp)) ?_;clear O;refine za7 rfl rfl (fun K O=>?_);refine zk6 75 _ (.tmp 32) rfl (w.heap.size+1) _ rfl rfl r (by kernel_rfl) rfl (by simp[Value.oneCell']) ?_;intro W6 BQ u;have y:=BR.grown u (by simp);refine O _ _ (qxf u (by simp)) ?_;clear O;refine zdr ?_;obtain⟨x0,x1,x2,x3,x4⟩:=zc3 y;obtain⟨y0,y1,y2,y3,y4⟩:=zc3 BQ;go_wp2_with fail
  have a:=A.out;subst a;have U:=s.size;have a5:V.heap.size<=W5.heap.size:=U;exact bodyPost_ret (v:= .tuple #[zde (p0,p1,p2,p3,p4),zde (q0,q1,q2,q3,q4)]) (by simp[results,Tryz.results151,go_sem,x0,x1,x2,x3,x4,y0,y1,y2,y3,y4,zde,zay]) rfl ⟨rfl,(z.out.keep s b (by omega) (by decide)).keep u r (by omega) (by decide),zbf (zbf B.out s (qq0 _)) u (by omega)⟩
noncomputable def qat(t:Int)(S:St):zdp × St:=
 if(zbn (lenS 65536 S).2).1=1 then((((lenS 65536 S).1:Int),true,(zix t (zbn (lenS 65536 S).2).2).1.1,(zix t (zbn (lenS 65536 S).2).2).1.2),(zix t (zbn (lenS 65536 S).2).2).2)
 else((((lenS 65536 S).1:Int),false,zbb,zbb),(zbn (lenS 65536 S).2).2)
noncomputable def getA(t:Int)(S:St):zdp × St:=
 if(zbn (lenS 65536 S).2).1<=1/\(qat t S).2≠none/\zcj t (qat t S).1=true then qat t S else(zb4,none)
theorem qgl{w:World}{g:Nat}{S:St}{t:Int}(h:CurS w g S)(h1:(zbn (lenS 65536 S).2).1=1)(hl:(S.getD []).length<=140737488351232):
 Calls Tryz.prog 138 #[.pointer (some ⟨g,0,none⟩),.int .i64 t] w
  (zpf (getA t S).1 g (getA t S).2 w):=by
 obtain⟨X,a⟩:∃X,X=getA t S:=⟨_,rfl⟩;rw[<-a];unfold getA qat at a;rw[if_pos h1,h1] at a;have a9:=zdo (m:=65536) S (by omega) h.ok;have a8:=zev (m:=65536) h.ok;have b0:=h.lt;have ha:New w (w.alloc (.cells (zci zb4).toArray 133)):=(qwd _ _).alloc (qq0 _) _;have h0:=h.below ha;have L1:=qwk (zei (m:=65536) h0 (by omega) (by omega));have T:Blk (w.alloc (.cells (zci zb4).toArray 133)) w.heap.size 133 (zci zb4).toArray:=qw1 _ _ _;generalize lenS 65536 S=H at*;obtain⟨n,S1⟩:=H;dsimp only at*;have a1:=zwj (S:=S1);have k:=qwk a;have H1:=qwk h1;clear h a h1;go_enter Tryz.func138,Tryz.ntmps138
 go_wp2_with fail
 refine L1.out.mono ?_;rintro e N ⟨rfl,E,g1⟩;have C2:=qwk (zjm (E.below ((qwd _ _).alloc (qq0 _) (.cells #[.int .i64 (n:Int),.bool false,.bool false,.int .i64 0,.string ⟨#[]⟩,.int .i64 0,.int .i64 0,.bool false,.int .i64 0,.string ⟨#[]⟩,.int .i64 0,.int .i64 0] 133))));have a2:=g1.size;have U:=(T.grown g1 (by intro e;injection e with e;omega)).alloc (.cells #[.int .i64 (n:Int),.bool false,.bool false,.int .i64 0,.string ⟨#[]⟩,.int .i64 0,.int .i64 0,.bool false,.int .i64 0,.string ⟨#[]⟩,.int .i64 0,.int .i64 0] 133);have Q:=qw1 N 133 #[.int .i64 (n:Int),.bool false,.bool false,.int .i64 0,.string ⟨#[]⟩,.int .i64 0,.int .i64 0,.bool false,.int .i64 0,.string ⟨#[]⟩,.int .i64 0,.int .i64 0];have G1:=(qw9 ha (g:=g)).trans (g1.trans (qw9 ((qwd _ N).alloc (qq0 _) (.cells #[.int .i64 (n:Int),.bool false,.bool false,.int .i64 0,.string ⟨#[]⟩,.int .i64 0,.int .i64 0,.bool false,.int .i64 0,.string ⟨#[]⟩,.int .i64 0,.int .i64 0] 133))));have a0:=H1.out;generalize zbn S1=Bq at*;obtain⟨y,S2⟩:=Bq;dsimp only at*;clear L1 h0 T E g1 ha H1;subst a0;go_wp2_with fail
 refine C2.out.mono ?_;rintro e w2 ⟨rfl,G,g2⟩;have a3:=g2.size;simp only[qww] at a2 a3;have V:=U.grown g2 (by intro e;injection e with e;omega);have f:=Q.grown g2 (by intro e;injection e with e;omega);have G2:=G1.trans g2;clear C2 U Q G1 g2;obtain⟨x0,x1,x2,x3,x4,x5,x6,x7,x8,x9,a6,a7⟩:=zbd f;have f1:=f.frozen 1;have gS:w2.grownBy (w2.setCell ⟨N.heap.size,1,none⟩ (.bool true)) (some N.heap.size):=zce;have I:=G.keep gS f (by omega) (by decide);have K:=f.set_ 1 (.bool true);simp only[qta,qs1,qtb] at K;have Y:=V.grown gS (by simp;omega);have G3:=zbf G2 gS (by omega);have EN:=qwk (qgk (t:=t) I (by omega));have HD:=zs8 t S2;have b1:w2.heap.size<=(w2.setCell ⟨N.heap.size,1,none⟩ (.bool true)).heap.size:=gS.size;have SR:=fun(W:World)=>zh0 (w:=W) (t:=t) (s:=((n:Int),true,(zix t S2).1.1,(zix t S2).1.2)) ⟨HD.1.1,HD.2.1⟩
 generalize zix t S2=En at*;obtain⟨⟨⟨p0,p1,p2,p3,p4⟩,⟨q0,q1,q2,q3,q4⟩⟩,S3⟩:=En;dsimp only at k EN SR;generalize zcj t ((n:Int),true,(p0,p1,p2,p3,p4),(q0,q1,q2,q3,q4))=R at*;have SR:Hid (∀W,Calls Tryz.prog 133 #[.int .i64 t,.agg #[.int .i64 (n:Int),.bool true,.bool p0,.int .i64 p1,.string (zaf p2),.int .i64 p3,.int .i64 p4,.bool q0,.int .i64 q1,.string (zaf q2),.int .i64 q3,.int .i64 q4]] W (zap (.bool R) W)):=qwk SR;clear HD;go_wp2_with fail
 refine EN.out.mono ?_;rintro e w4 ⟨rfl,J,g4⟩;have b2:=g4.size;have L:=K.grown g4 (by intro e;injection e with e;omega);have Z:=Y.grown g4 (by intro e;injection e with e;omega);have G4:=G3.trans g4;clear EN I K Y G3 g4 gS G V f G2 x0 x1 x2 x3 x4 x5 x6 x7 x8 x9 a6 a7 f1;rw[show zde (p0,p1,p2,p3,p4)= .agg #[.bool p0,.int .i64 p1,.string (zaf p2),.int .i64 p3,.int .i64 p4] from rfl,show zde (q0,q1,q2,q3,q4)= .agg #[.bool q0,.int .i64 q1,.string (zaf q2),.int .i64 q3,.int .i64 q4] from rfl];go_wp2_with (first
  |(refine zk5 rfl 75 (.tmp 21) (.tmp 19) rfl N.heap.size 2 rfl rfl L (by simp) (by kernel_rfl) (by simp[Value.oneCell']) ?_
    intro W5 r G5;simp only[qta,qs1,qtb] at r)
  |(refine zk5 rfl 75 (.tmp 22) (.tmp 20) rfl N.heap.size 7 rfl rfl r (by simp) (by kernel_rfl) (by simp[Value.oneCell']) ?_
    intro W6 b G6;simp only[qta,qs1,qtb] at b;have b3:=G5.size;have b4:=G6.size;have p:=(J.keep G5 L (by omega) (by decide)).keep G6 r (by omega) (by decide);have i:=(Z.grown G5 (by simp;omega)).grown G6 (by simp;omega);have x:=zbf (zbf G4 G5 (by omega)) G6 (by omega);clear L r G5 G6 J Z G4;obtain⟨z0,z1,z2,z3,z4,z5,z6,z7,z8,z9,A,B⟩:=zbd b;have BD:=qwk (qir p);have t1:decide ((1:Int)<1)=false:=by simp))
 cases S3 with
 |none=>
  refine BD.out.mono ?_;rintro e w7 ⟨rfl,rfl⟩;have a:=k.out;rw[if_neg (by simp)] at a;clear k;have k:=qwk a;clear a;have d:=p;have c:=i;have u:=b;have C:=x;clear p i b x BD;have F:=qwk (zqp d);go_wp2_with fail
  refine F.out.mono ?_;rintro e w8 ⟨rfl,q,z⟩;have a4:=z.size;have j:=c.grown z (by intro e;injection e with e;omega);have G8:=qwk (C.trans z);have M:=qwk q;clear F c u C z d q z0 z1 z2 z3 z4 z5 z6 z7 z8 z9 A B
  go_wp2_with (refine zal rfl 133 (.tmp 4) (.tmp 37) rfl w.heap.size _ rfl rfl j (by kernel_rfl) (by simp[zci,zb4,zay]) (by simp[Value.oneCell']) ?_
               intro W9 P D;obtain⟨s0,E,G,I,J,s5,p,d,q,s9,l,o⟩:=zbd P)
  have a:=k.out;subst a;exact bodyPost_ret (v:=zcm zb4) (by simp[results,Tryz.results138,go_sem,s0,E,G,I,J,s5,p,d,q,s9,l,o,zcm,zci,zay,zb4,zbb,show zaf []=⟨#[]⟩ from rfl]) rfl ⟨rfl,M.out.keep D j (by omega) (by decide),zbf G8.out D (qq0 _)⟩
 |some S3=>
  refine BD.out.mono ?_;rintro e b6 ⟨rfl,rfl⟩;go_wp2_with fail
  refine(SR.out _).mono ?_;rintro e w7 ⟨rfl,O⟩;have b5:=O.size;have c:=i.below O i.lt;have u:=b.below O b.lt;have C:=x.trans (qw9 O);have d:=p.below O;clear p i b x BD O z0 z1 z2 z3 z4 z5 z6 z7 z8 z9 A B SR;obtain⟨z0,z1,z2,z3,z4,z5,z6,z7,z8,z9,A,B⟩:=zbd u;have a:=k.out;clear k;cases R with
  |false=>
   rw[if_neg (by simp)] at a;have k:=qwk a;clear a;have F:=qwk (zqp d);go_wp2_with fail
   refine F.out.mono ?_;rintro e w8 ⟨rfl,q,z⟩;have a4:=z.size;have j:=c.grown z (by intro e;injection e with e;omega);have G8:=qwk (C.trans z);have M:=qwk q;clear F c u C z d q z0 z1 z2 z3 z4 z5 z6 z7 z8 z9 A B
   go_wp2_with (refine zal rfl 133 (.tmp 4) (.tmp 37) rfl w.heap.size _ rfl rfl j (by kernel_rfl) (by simp[zci,zb4,zay]) (by simp[Value.oneCell']) ?_
                intro W9 P D;obtain⟨s0,E,G,I,J,s5,p,d,q,s9,l,o⟩:=zbd P)
   have a:=k.out;subst a;exact bodyPost_ret (v:=zcm zb4) (by simp[results,Tryz.results138,go_sem,s0,E,G,I,J,s5,p,d,q,s9,l,o,zcm,zci,zay,zb4,zbb,show zaf []=⟨#[]⟩ from rfl]) rfl ⟨rfl,M.out.keep D j (by omega) (by decide),zbf G8.out D (qq0 _)⟩
  |true=>
   rw[if_pos ⟨by omega,by simp,by trivial⟩] at a;have k:=qwk a;have C:=qwk C;have d:=qwk d;clear a
   go_wp2_with (refine zal rfl 133 (.tmp 4) (.tmp 38) rfl w.heap.size _ rfl rfl c (by kernel_rfl) (by simp[zci,zb4,zay]) (by simp[Value.oneCell']) ?_
                intro W9 P D;obtain⟨s0,E,G,I,J,s5,p,a5,q,s9,l,o⟩:=zbd P)
   have a:=k.out;subst a;exact bodyPost_ret (v:=zcm ((n:Int),true,(p0,p1,p2,p3,p4),(q0,q1,q2,q3,q4))) (by simp[results,Tryz.results138,go_sem,s0,E,G,I,J,s5,p,a5,q,s9,l,o,zcm,zci,zay]) rfl ⟨rfl,d.out.keep D c (by omega) (by decide),zbf C.out D (qq0 _)⟩
end Go.Proofs.Y
namespace Go.Hm
open Go Go.RowKit
def qd0(c:zab):Nat:=if c.1 then 0 else 1
def zcn(l:List zab):List Nat:=l.map qd0
def zcc(l:List zab):List zab:=l.filter fun c=> !c.1
def nullC:zab:=(true,0,[],0,0)
theorem zff(l:List zab):(zcn l).length=l.length:=by simp[zcn]
theorem z2u(l:List zab):∀x∈zcn l,x<2^1:=by intro x a;obtain⟨c,_,rfl⟩:=qqu.1 a;unfold qd0;split<;> decide
theorem z5w(l:List zab)(k:Nat)(h:k<l.length):zcn (l.take (k+1))=zcn (l.take k)++[qd0 (l.getD k (false,0,[],0,0))]:=by rw[zac l k (false,0,[],0,0) h,zcn,que];rfl
theorem qa4(l:List zab)(k:Nat)(h:k<l.length):zcc (l.take (k+1))=zcc (l.take k)++(if(l.getD k (false,0,[],0,0)).1 then [] else [l.getD k (false,0,[],0,0)]):=by
 rw[zac l k (false,0,[],0,0) h,zcc,List.filter_append];congr 1
 generalize l.getD k (false,0,[],0,0)=c;cases hh:c.1<;> simp[hh]
theorem zph(l:List zab):(zcc l).length<=l.length:=List.length_filter_le _ _
def qgr(o:Option (List Nat)):Int:=match o with|none=> -1|some m=>(m.sum:Nat)
def zoz:List Nat->List zab->Option (List zab)
 | [],_=>some []
 |x::m,r=>if x=0 then(zoz m r).map (nullC:: ·) else match r with
  | []=>none
  |c::r=>if c.1 then none else(zoz m r).map (c:: ·)
theorem znq(x:Nat)(m:List Nat)(r:List zab):zoz (x::m) r=if x=0 then(zoz m r).map (nullC:: ·) else match r with
 | []=>none
 |c::r=>if c.1 then none else(zoz m r).map (c:: ·):=by
 cases r<;> rfl
def qgs(o:Option (List Nat))(r:List zab):Option (List zab):=match o with|none=>none|some m=>if m.sum=r.length then zoz m r else none
theorem z2v(l:List zab):(zcn l).sum=(zcc l).length:=by
 induction l with
 |nil=>rfl
 |cons c l a=>
  cases h:c.1<;> simp[zcn,zcc,qd0,h] at a⊢ <;> omega
def zxe(c:zab):zab:=if c.1 then nullC else c
theorem zta(l:List zab):zoz (zcn l) (zcc l)=some (l.map zxe):=by
 induction l with
 |nil=>rfl
 |cons c l d=>
  cases h:c.1
  ·have a:zcn (c::l)=1::zcn l:=by simp[zcn,qd0,h]
   have b:zcc (c::l)=c::zcc l:=by simp[zcc,h]
   rw[a,b,znq,if_neg (by omega)];simp only[h,qvr,if_false];rw[d];simp[zxe,h]
  ·have a:zcn (c::l)=0::zcn l:=by simp[zcn,qd0,h]
   have b:zcc (c::l)=zcc l:=by simp[zcc,h]
   rw[a,b,znq,if_pos rfl,d];simp[zxe,h]
theorem znr:∀(m:List Nat) (r x:List zab),(∀y∈m,y<2^1)->m.sum=r.length->zoz m r=some x->zcn x=m/\zcc x=r/\x.length=m.length
 | [],r,x,_,hs,h=>by
   simp[zoz] at h;subst h;have:r=[]:=qu6.1 (by simpa using hs.symm);subst this;exact⟨rfl,rfl,rfl⟩
 |y::m,r,x,k,hs,h=>by
  rw[znq] at h;have o:=k y (by simp);have f:∀z∈m,z<2^1:=fun z n=>k z (by simp[n])
  split at h
  ·rename_i j
   subst j;cases hj:zoz m r with
   |none=>rw[hj] at h;cases h
   |some i=>
    rw[hj] at h;simp at h;subst h;obtain⟨a,b,c⟩:=znr m r i f (by simpa using hs) hj;exact⟨by simp[zcn,nullC,qd0] at a⊢;exact a,by simp[zcc,nullC] at b⊢;exact b,by simp[c]⟩
  ·rename_i j
   have g:y=1:=by omega
   subst g;cases r with
   |nil=>simp at h
   |cons c r=>
    simp only at h;split at h
    ·cases h
    ·rename_i l
     cases hj:zoz m r with
     |none=>rw[hj] at h;cases h
     |some i=>
      rw[hj] at h;simp at h;subst h;have e:c.1=false:=by simpa using l
      obtain⟨a,b,d⟩:=znr m r i f (by simp at hs;omega) hj;exact⟨by simp[zcn,qd0,e] at a⊢;exact a,by simp[zcc,e] at b⊢;exact b,by simp[d]⟩
end Go.Hm
namespace Go.Proofs.Y
open Go.RowKit Go.Hm
theorem zmn(l:List zab):wid (zcn l)<=1/\ ∀x∈zcn l,x<=18446744073709551615:=by
 have a:∀x∈zcn l,x<=18446744073709551615:=fun x b=>by have:=z2u l x b;omega
 exact⟨(zhj _ 1 (by omega) a).2 (z2u l),a⟩
def zcb(l:List zab):List Nat:=low (pk 1 (zcn l)) ((1*(zcn l).length+7)/8)
theorem ztb{l:List zab}(a:l.length<=65536):zqe (zcn l) 1=some (zcb l):=zge (zcn l) 1 (by omega) (by rw[zff];exact a) (zmn l).1
theorem zxf{l:List zab}(a:l.length<=65536):zch (zcb l) 1 (l.length:Int)=some (zcn l):=by have:=zio (zcn l) 1 (by omega) (by rw[zff];exact a) (zmn l).1 (zmn l).2;rw[zff] at this;unfold zcb;rw[zff];exact this
theorem qa5{b m:List Nat}{n:Int}(f:∀x∈b,x<256)(h:zch b 1 n=some m):zqe m 1=some b/\(m.length:Int)=n/\(∀y∈m,y<2^1)/\m.length<=65536:=by obtain⟨a,c,g,d,e⟩:=zld f h;exact⟨a,c,(zhj m 1 (by omega) d).1 (by omega),e⟩
theorem qp6:Tryz.prog.underlying 57=some (.slice (Tryz.prog.elem 57)):=by kernel_rfl
theorem qp7(w:World):(sizeOf (Tryz.prog.elem 57)).run Tryz.prog w= .ok 1 w:=by kernel_rfl
theorem qbw(k:IntKind)(l:List Int)(i:Nat):(za5 k l).drop i=za5 k (l.drop i):=by simp[za5]
theorem zsf(k:IntKind)(l:List Int)(i:Nat):(za5 k l).take i=za5 k (l.take i):=by simp[za5]
theorem Reads.part{w:World}{B n cap:Nat}{A:Option Addr}{l:List Int}(h:Reads w B 1 A n (za5 .i64 l)){f e:Nat}(d:f<=e)(c:e<=n)(b:n<=cap):
 Reads w B 1 (if cap=f then A else A.map (·.add (f*1))) (e-f) (za5 .i64 ((l.drop f).take (e-f))):=by
 have a:=(h.cut (k:=f) (cap:=cap) (by omega) b).take (k:=e-f) (by omega);rw[qq7,qq7,qbw,zsf] at a;rw[qq7];exact a
theorem zjw{w:World}{A:Option Addr}{n c:Nat}{l:List Int}(h:Reads w w.heap.size 1 A n (za5 .i64 l))(hl:∀x∈l,zf9 x)(hn:n<=9223372036854775807):
 Calls Tryz.prog 179 #[.slice A n c] w (OptB (zql l) w):=by
 obtain rfl:=h.lenI;obtain⟨X,a⟩:∃X,X=zql l:=⟨_,rfl⟩;rw[<-a];unfold zql at a;by_cases h1:65536<l.length
 ·rw[if_pos h1] at a
  have F:=qwk a;have i1:(65536:Int)<(l.length:Int):=by omega
  clear a h hl;go_enter Tryz.func179,Tryz.ntmps179
  go_wp2
  go_ret2
  rw[F.out];exact⟨rfl,qw4 _⟩
 rw[if_neg h1] at a;by_cases E:l.length=0
 ·rw[if_pos E] at a
  have F:=qwk a;have i1: ¬(65536:Int)<(l.length:Int):=by omega
  have e0:((l.length:Int)==0)=true:=by rw[E];rfl
  have H0:=qwk E;clear a h hl E;go_enter Tryz.func179,Tryz.ntmps179
  go_wp2
  go_ret2
  rw[F.out];exact⟨none,0,0,rfl,qw0,qw4 _⟩
 rw[if_neg E] at a;have i1: ¬(65536:Int)<(l.length:Int):=by omega
 have e0:((l.length:Int)==0)=false:=by rw[beq_eq_false_iff_ne];omega
 have i0:(0:Int)<(l.length:Int):=by omega
 obtain⟨ad,rfl,_,c0⟩:=h.int (i:=0) (by omega);rw[zgi] at c0;have R:=hl _ (zhx (show 0<l.length by omega));have ZG:=qwk (fun W:World=>zqh (l.getD 0 0) W R.1 R.2);have PT:=qwk (fun W:World=>zdc none 0 0 [] (zig (l.getD 0 0)) W qwy (by omega) (by have:=zk4 R;omega));have c7:=zae (zk4 R);have SP:=qwk (fun(W:World) (hW:New w W)=>z6j (c:=c) (qxj h hW) (by omega));have j:=zhv l;have y:=ze5 l;have B0:=qwk (ziq (zeb l));have BS:=qwk (zir (zeb l));have Q:=zg9 j;have d:=fun k=>(show∀x∈blk (zeb l) k,zf9 x from zwp j k)
 have P:=fun k (hk:k<nblk (zeb l).length)=>show(blockD (blk (zeb l) k)).length<=268 from zsv (zwp j k) (by rw[zqk];unfold nblk at hk;omega) (by rw[zqk];omega)
 have a4:Hid (nblk (l.length-1)=nblk (zeb l).length):=qwk (by rw[y]);have F:=qwk a;have a1:=qwk Q;have a2:=qwk d;have a0:=qwk P;have b7:=qwk y;have b4:(zeb l).length<=65536:=by omega
 clear a h hl j y Q d P R E h1;generalize zeb l=s at*;generalize l.getD 0 0=x at*;generalize hV:vp (zig x)=V at*;clear hV;go_enter Tryz.func179,Tryz.ntmps179
 go_wp2_with fail
 refine(ZG.out _).mono ?_;rintro e w1 ⟨rfl,rfl⟩;go_wp2_with fail
 refine(PT.out _).mono ?_;rintro e w1 ⟨A1,n1,c1,rfl,z,U⟩;rw[qrr] at z;obtain rfl:n1=V.length:=by have:=z.len;rwa[zaa] at this
 clear ZG PT c0;go_wp2_with fail
 refine(SP.out _ U).mono ?_;rintro e w2 ⟨D,n2,m,rfl,C,b2⟩;obtain rfl:n2=s.length:=by have:=C.len;rwa[zib] at this
 have J:=ziw C (z.base_le (qq1 _));have z:=z.later b2;have H:=qw5 U b2;have C:=C.base_le (b':=w.heap.size) U.size;have a7:=C.cap.1;clear SP U b2;have G:=qwk (fun W=>z6k s.length W (by omega));have hK:nblk s.length<=2048:=by unfold nblk;omega
 have HK:Hid (nblk s.length=(s.length+31)/32):=qwk rfl;go_wp2_with fail
 refine(G.out _).mono ?_;rintro e w3 ⟨rfl,rfl⟩;clear G;generalize M:nblk s.length=K at*;have b6:=qwk M;clear M;go_wp2_with fail
 go_loopw [4,26] (fun v i wr=>∃(k:Nat) (S:Option Addr) (Z:Nat),k<=K/\i= .int .i64 (k:Int)/\v= .slice S (V++zcq s k).length Z/\Go.Hm.Own wr w.heap.size 5 (.slice S (V++zcq s k).length Z) (zar .u8 (V++zcq s k))/\Go.Hm.Own wr w.heap.size 3 (.slice D s.length m) (za5 .i64 s)/\(Value.ownBlock (.slice D s.length m)=none\/Value.ownBlock (.slice D s.length m)≠Value.ownBlock (.slice S (V++zcq s k).length Z))/\New w wr) (fun _ i _=>K-(intOf i).toNat)
 case atStart=>exact⟨0,A1,c1,qq1 _,rfl,by rw[B0.out,qra],by rw[B0.out,qra];exact z,C,by rw[B0.out,qra];exact J,H⟩
 case round=>
  clear z C J H;obtain⟨k,S,Z,hk,rfl,rfl,o,u,N,b⟩:=hrel;by_cases a9:k<K
  ·have a3:=HK.out
   obtain⟨f,hf⟩:∃f,f=k*32:=⟨_,rfl⟩;obtain⟨g,hg⟩:∃g,g=f+32:=⟨_,rfl⟩;obtain⟨e,he⟩:∃e,e=min g s.length:=⟨_,rfl⟩;have b9:f<s.length:=by omega
   have w1:IntKind.i64.wrap ((k:Int)*32)=(f:Int):=by rw[qwr];omega
   have w2:IntKind.i64.wrap ((f:Int)+32)=(g:Int):=by rw[qwr];omega
   have m1:min (g:Int) (s.length:Int)=(e:Int):=by omega
   have m2:(if(s.length:Int)<(g:Int) then(s.length:Int) else(g:Int))=(e:Int):=by split<;> omega
   have m3:(if s.length<g then(s.length:Int) else(g:Int))=(e:Int):=by split<;> omega
   have SL:=fun W=>zh7 qp6 qp7 D s.length m f e (by omega) (by omega) W
   have T:=Reads.part (cap:=m) u.reads (f:=f) (e:=e) (by omega) (by omega) a7;have O:(s.drop f).take (e-f)=blk s k:=by
    unfold blk;rw[<-hf];by_cases q:g<=s.length
    ·rw[show e-f=32 by omega]
    ·rw[qru (by rw[qqw];omega),qru (by rw[qqw];omega)]
   rw[O] at T;obtain⟨A',L⟩:∃A',A'=(if m=f then D else D.map (·.add (f*1))):=⟨_,rfl⟩;rw[<-L] at SL T;have LB:=qwk (zx1 (c:=m-f) T (a2.out k) (by omega) (by omega));have c4:=a0.out k a9;have a6:=a1.out k (by omega);have r:=qwk (show V++zcq s (k+1)=V++zcq s k++blockD (blk s k) by rw[BS.out k,qrc]);have a8:(V++zcq s k).length=V.length+(zcq s k).length:=qrp;have b8:(V++zcq s k).length<=600000:=by omega
   have HO:=qwk (qtc hf (qtc hg he));clear O L T hf hg he a3 a6 a8;generalize V++zcq s k=VB at*;generalize blockD (blk s k)=BD at*;generalize e-f=ef at*;generalize m-f=cf at*;have c6:(k:Int)<(K:Int):=by omega
   go_wp2_with fail
   refine LB.out.mono ?_;rintro e w3 ⟨A3,n3,c3,rfl,o3,Y⟩;obtain rfl:n3=BD.length:=by have:=o3.len;rwa[zaa] at this
   have u3:=u.later Y;have b0:=o.later Y;have I:=qw5 b Y;have z3:=I.size;clear u o b Y LB SL m1 m2 m3;go_wp2_with (first
    |(refine zaq elB rfl (.tmp 45) (.tmp 46) rfl (W:=w) (B:=w.heap.size) b0 o3.reads rfl rfl I (qq0 _) z3 (by omega) (by simp only[maxLen];omega) ?_
      intro A5 c5 w5 _ _ o5 g5 b5 d5;have u5:=u3.kept g5 N;have p:=zmj N d5 u3))
   go_roundw
   have t:=o5.len;rw[zaa] at t;rw[t] at o5 p;case rel=>exact⟨k+1,A5,c5,by omega,by go_num,by rw[r.out,<-t],by rw[r.out];exact o5,u5,by rw[r.out];exact p,b5⟩
   case measure=>simp[intOf];omega
  ·obtain rfl:k=K:=by omega
   have a5:X=some (V++zcq s k):=by rw[F.out,a4.out]
   go_wp2_with fail
   go_ret2
   rw[a5];exact⟨_,_,_,rfl,o,b⟩
end Go.Proofs.Y
